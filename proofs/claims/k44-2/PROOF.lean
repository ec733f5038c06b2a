import PyProof.Rows.All
import Wide.All
import OpenK.AllK
import Wide.FinOn
import Lean
import PyProof.EqAt
import PyProof.EqKinds
import PyProof.TupleCall
import PySem.Challenge.RW_figuresort_k44_many_lists_merged
set_option compiler.extract_closed false
local macro_rules
 | `(tactic|lia)=>`(tactic|first | lia (config:={}) | omega)
open List renaming getElem?_eq_getElem→Ac,length_map→Af,getD_eq_getElem?_getD→Ag,getElem?_map→Ak,mem_cons→Al,pairwise_append→An,replicate→Ap,size_toArray→Ar,range→As,toArray→Au,mem_of_getElem?→Ax,length_append→Ay,length_cons→Az,mem_append_right→AD,mem_cons_of_mem→AG,getElem?_eq_some_iff→AH,mem_singleton→AJ,range'→AM,map_append→AN,mem_append→AO,getElem?_append_right→AQ,take_of_length_le→AR,getElem_of_mem→AS,getElem_mem→AU,getElem?_append_left→AX,append_assoc→A0,mem_cons_self→A1,length_take→A8,length_nil→A9,pairwise_iff_getElem→Bb,length_drop→Bc,not_mem_nil→Bd,take_append_drop→Bf,extract_eq_drop_take→Bh,mem_filterMap→Bi,length_set→Bj,length_eq_zero_iff→Bm,map_cons→Bo,lookup→Br,flatten_cons→Bu,set→Bw,pairwise_cons→BA,mem_range→BD,getElem?_set_self→BE,length_singleton→BF,zip_cons_cons→BG,Nodup→BJ,replicate_succ→BN,take_succ_eq_append_getElem→BQ,length_replicate→BR,perm_append_comm→BV,getElem?_set_ne→BZ,append_nil→B8,all_cons→B9,length_range→Cd,mem_range'_1→Ce,take_add_one→Cf,drop_eq_getElem_cons→Cj,mem_of_mem_drop→Ck,mem_map→Ct,filterMap_cons→Cu,nil_append→Cz,take_append_of_le_length→CC,drop_zero→CH,mem_of_mem_take→CM,getElem?_of_mem→CO,length_reverse→CP,zip_nil_right→CW,getElem_append_left→C2,getElem?_replicate→C4,pairwise_singleton→C6,zip_nil_left→C7,getElem_drop→C9,sum_cons→Df,perm_middle→Dg,getElem?_eq_none→Dl,nodup_cons→Do,range_eq_range'→Dt,drop_append_of_le_length→Dv,length_pos_iff→Dx,length→DC,mem_replicate→DJ,take_sublist→DT,getElem_take→DX,getElem_inj→D1,map_map→D9,of_mem_zip→Ei,range_succ→El,drop_eq_nil_of_le→Er,eq_nil_or_concat→Ey,concat_eq_append→Ez,take_zero→EB,filterMap_append→EH,getElem?_reverse→EI,mem_append_left→EJ,range'_append_1→EL,getLast?_concat→EM,map_take→EO,map_drop→EQ,flatten_append→ET,map_set→E7,contains_cons→Fb,set_cons_succ→Fc,reverse_cons→Fh,drop_sublist→Fk,mapM_toArray→Fp,getElem?_set→Fu,pairwise_map→Fw,nodup_append→Fx,lookup_cons→FD,all_eq_true→FE,drop_append→FH,ext_getElem→FI,getElem_map→FJ,map→FK,mem_filter→FM,foldl→FN,foldl_cons→FO,take_left'→Gb,perm_cons→Gi,nodup_nil→Gm,getD→Go,map_nil→GX
open PySem.W renaming Frag→Ae,nsIn→AE,findIn→AI,mg_of→AY,mg_none_of→A6,emptyDict→Bt,keepIn→Bv,kia_one→Bx,kitOne→BH,instObj→BK,hideAll_get→BM,callWith_K→B6,hasDictIn→Cb,hideAll_none→Cg,isFn→Co,hideAll→Cy,fnOf→CG,plainGet→CL,of_hideAll→CU,funFrames_hide→Dd,mroIn→De,methodCall_KW→Dj,plainGet_of→Dw,lookIn→Dy,codeIn→Dz,clsIn→DQ,methodObj→DR,plainOver→DS,takerIn→Eg,makesIn→Eh,OpenLaw→Ej,cellsFrom_some→Em,exmOne→EF,kitx_list→Ff,kitx_dict→Fg,handedIn→FB,kitAny→Gj,WalkO→Gq
open Nat renaming le_refl→Ai,lt_of_lt_of_le→AA,ne_of_lt→AB,zero_le→AC,le_trans→Bg,lt_or_ge→Bk,lt_of_le_of_lt→By,eq_zero_or_pos→Bz,lt_irrefl→BC,le_succ→BO,eq_or_lt_of_le→BU,le_of_lt→BY,not_lt_zero→B1,ne_of_gt→Cn,le_of_eq→Cp,le_add_right→Cs,zero_add→CI,lt_succ_of_lt→Da,succ_le_succ→Di,sub_self→Ds,log2_lt→DD,add_sub_cancel→DH,lt_trichotomy→DU,lt_succ_self→D5,lt_trans→Ea,add_assoc→ER,add_comm→E4,le_of_not_lt→FC,succ_ne_self→FF,min_eq_left→FU,sub_zero→GY,not_lt→Hi
open PySem.Heap renaming get?_push_of_some→Aj,lt_size→Am,get?_push_size→AW,get?_update_self→BS,get?_push_ne→B2,get?_update_other→CA,size_push→CF,FlyingW→CK,size_update→CN,get?_update_ne→CQ,SameBut→D4,get?_some_iff→Fa,HeldW→Ga
open Bool renaming false_ne_true→Ao,false_eq_true→Aq,and_eq_true→AZ,not_true→Cw,eq_iff_iff→Dm,not_eq_true'→DV,and_false→EE,and_eq_true_iff→EN,or_true→E5,false_or→Gr
open Or renaming inl→Av,inr→FS
open PySem.Value renaming ref→Aw,none→AT,type→BX,builtin→B3,bool→C3,notImplemented→Dq,int→Ef,str→EY,float→Fy,isInt→G5,bytes→G6
open Array renaming getD→AF,toList_append→A3,length_toList→Bs,toList_inj→BP,toList_extract→B0,getD_eq_getD_getElem?→B7,getElem?_eq_none→CB,toList_push→C8,toList_map→Dh,size_map→DB,perm_iff_toList_perm→DO,map_extract→DW,mem_toList_iff→EK,toList_modify→EU,find?_toList→E2,ext_getElem?→E8,map_append→FG,map_push→Gg,toList→GI
open True renaming intro→AK
open PySem.PyData renaming weightAll→AL,weight→Bp,leavesShort→Bq,int→DY,showable→Ek,leavesShortAll→EC,showableAll→E9,hasDictAll→Fj,canLayAll0→Fv,depthAll→FV,canLay0→Gh,strOk→G0,str→He
open Ne renaming symm→AV
open PySem.PassesOwn renaming never→A2,leaving→HH
open PySem.Challenge renaming rw_figuresort_k44_many_lists_merged→A4,pw_figuresort_k44_many_lists_merged→A5
open False renaming elim→A7
open Option.some renaming inj→Ba,injEq→HG
open Option renaming map_eq_some_iff→Be,isSome_iff_exists→CV,map_some→FR,none→G9
open PyProof.Rows renaming slot_tuple_getitem→Bl,callWith_type1→BL,callWith_builtin1→Dp,lt_int→Hj,le_int→Hk,gt_int→Hl
open PySem.Obj renaming mapSeq→BB,data_mapFields→E6,putSet→Hh
open PyProof.Rows.SortSt renaming mk'→BI
open PySem.Builtin.Tuple renaming tupleCompareSizes→BW,tupleExact→Cr,tupleItemsOf→DN
open PySem renaming mem_of_lookup→B4,ofString_length→CJ,field→DE,Builtin→DP,Within→EZ,call→FQ,seqItems?→FT,frameOf→Gu,update→GZ,stack→Ha,alloc→Hb,load→Hf,Fin→Hv
open List.Perm renaming refl→B5,append_left→EA,trans→FY
open PySem.F renaming slot_tuple_iterator_next→Ca,excBase_ValueError→Cm,plainAttrs_list→Cv,args_tuple_add_2→CY,entry_tuple_add→C5,slot_tuple_add→Dc,slot_tuple_lt→Dk,args_tuple_iterator_next_1→DA,entry_tuple_iterator_next→DG,args_tuple_lt_2→Eb,args_tuple_gt_2→Ed,entry_tuple_lt→En,entry_tuple_gt→Eu,typeOf_object_class→ED,slot_tuple_gt→EG,attr_ValueError→Ft,slot_int_rmul→FP,entry_bexc_ga→FZ,slot_gs_get→Gv
open List.Pairwise renaming nil→Cc
open PySem.Builtin.Slice renaming slicePlaces→Ch,sliceAdjust→CS,sliceApplied→DM,slicePartIndex→Gc,sliceFields→GG
open PySem.Builtin.SmallTypes renaming nextOf→Ci
open PySem.AutoSeq1 renaming sub_tuple_tuple→Cq,wpAny_loadPart'→C1,list_insert_list_int_val_1→Fd,list_reverse_list_0→Ge
open Int renaming toNat_natCast→CD,emod_nonneg→CT,natAbs_natCast→C0,toNat_of_nonneg→EW,mul_nonneg→Gk,toNat→Hx
open PySem.Builtin.List renaming listTooLong→CZ
open PySem.Str renaming ofString→Dr,empty→Hr
open PySem.Calls renaming Constant_str→DF,Name_function_global→DL,callWith_builtin→Eo
open PySem.Code renaming quiet_builtin→DI,isFrame→E3,isGuard→GW,frames→G7
open Sum renaming inl→DZ,inr→D0
open PySem.Around renaming under→D6
open PySem.Heap.UpToSlots renaming of_keeps→Ec
open ForIn renaming forIn→Ep
open PySem.Sem renaming wp_pure→Es
open PySem.Builtin.Getset_descriptor renaming descrCheckInstance→Et,descrNameAndClass→Ew,descrGetter→EX,descrGet→Fq
open PySem.Heap.SameBut renaming update→ES
open PySem.EntryCells renaming newEntry→EV
open PyProof.Rows.IsTup renaming new→E1
open PySem.Heap.Ns1 renaming of_empty→Fe
open PySem.AutoListH renaming list___mul___list_int_3→Fz
open PySem.SeqAt renaming EqAt→FL,rcNeAt_reads→G1,eqv_refl→Hg
open Array.Perm renaming refl→FX
open MonadState renaming get→Gf
open Pure renaming pure→Gn
open PySem.Paired renaming length→Gp
open PySem.SeqAt.RcNeAt renaming lists_lengths→Gs,lists→Hu
open PySem.EqNone renaming eq_none_none→Gw,eq_none_bool→Gx,eq_bool_none→Gy,ne_none_none→GB,ne_none_bool→GC,ne_bool_none→GD,eq_none_int→GJ,eq_none_str→GK,eq_int_none→GL,eq_str_none→GO,ne_none_int→GQ,ne_none_str→GR,ne_int_none→GS,ne_str_none→GU
open PySem.EqMixed renaming eq_bool_str→Gz,eq_str_bool→GA,ne_bool_str→GE,ne_str_bool→GF,eq_int_str→GN,eq_str_int→GP,ne_int_str→GT,ne_str_int→GV
open PySem.W.OpenLaw renaming wellSaid→GH
open PySem.SeqAt.EqAt renaming int_int→G3,int_str→Hm,str_int→Hn,int_int→Hs
open PySem.Builtin.Range renaming rangeSize→G4
open PySem.MeetsSeq renaming list_pop_last→G8
open PySem.W.RowW renaming records→Hc
open PySem.Draws renaming list→Hd
open PySem.Flow renaming next→Ho
open PySem.W.Looks renaming here→Hq
open PySem.Heap.IsSliceOf renaming new→Ht
open Lean.Name renaming mkSimple→Hy
open PySem.Within renaming cons→Hz
open PySem.DictEntry renaming refKey→HI
open PySem.IsL renaming update→HJ
open MonadStateOf renaming set→HK
open PySem.Value.ref renaming inj→HL
open List.cons renaming inj→HM
set_option Elab.async false
set_option maxRecDepth 100000
set_option maxHeartbeats 0
namespace Fs
open PySem PySem.Spec PyProof.Rows
local macro_rules
 | `(tactic| o_head $_)=>`(tactic| assumption)
open PySem PySem.W PyProof.Rows in
theorem Kf (h:A4.row.Holds):A4.row.Holds:=by
 w_on; k_head
open PySem PySem.W PyProof.Rows in
def asF:List Addr:=[2,3,15,22,23,24,25,28,35,36,37,40,47,48,49,52,59,61,62,64,65,66,67,68,71,78,80,81,83,84,85,86,87,90,92,93,95,96,97,99,100,102,103,104,106,107,109,110,118,121,122,123,125,126,128,129,130,132,133,135,136,137,140,141,142,143,144,145,146,149,151,152,154,155,156,158,159,161,162,163,165,166,168,169,170,172,173,175,176,177,180,181,182,185,186,187,190,191,192,194,195,197,198,199,201,202,204,205,206,209,210,211,214,215,216,218,219,221,222]
open PySem PySem.W PyProof.Rows in
@[reducible] noncomputable def lv:Hook:=kHook Kf.heap_1 asF (λ _=>by kernel_rfl)
def zn (i:Nat):Stmt:=A5.main.body.getD i (.Pass ⟨0,0,0,0⟩)
def vwF:Program:={ A5 with main:={ A5.main with body:=[1,2,3,4,5,7,9,10,11,12,14,15,16,17,18,19,20,21,22,23,24].map zn } }
def loF:List PySem.Str:=[]
def xtF (s:Shared):Bool:=PySem.W.xlAt vwF [] s && PySem.W.recOk (Hc A4.row.toRowW) s
open PySem.W in
theorem wY:LeftO A5 vwF loF xtF (Hook.obs lv) (Hook.val lv) 3932:=by intro w; kernel_rfl
theorem wZ:GH A4=true:=by kernel_rfl
end Fs
set_option compiler.extract_closed false
set_option Elab.async false
set_option linter.all false
set_option maxRecDepth 100000
namespace L2
open PySem PySem.Spec PyProof.Rows
noncomputable abbrev Key:=Sum Int Str
noncomputable def uJ:Key->Value->Bool
 | .inl k,v=>G5 k v
 | .inr x,v=>Value.isStrOf x v
noncomputable def zo (w:World):Key->Int
 | .inl k=>hashInt k
 | .inr x=>hashStr w x
theorem aW:∀ {k:Key} {v:Value},uJ k v=true->(∃ i t,k=DZ i/\v=Ef i t)\/(∃ x t,k=D0 x/\v=EY x t)
 | .inl i,v,h=>by
  obtain ⟨t,e⟩:=Value.isInt_shape (k:=i) (v:=v) h
  exact .inl ⟨i,t,rfl,e⟩
 | .inr x,v,h=>by
  obtain ⟨t,e⟩:=Value.isStrOf_shape (x:=x) (v:=v) h
  exact .inr ⟨x,t,rfl,e⟩
theorem uK (a b:Int):decide ((DZ a:Key)=DZ b)=(a == b):=by
 by_cases e:a=b
 ·subst e; simp
 ·have h:¬ (DZ a:Key)=DZ b:=λ q=>e (Sum.inl.inj q)
  rw [decide_eq_false h]
  exact (beq_eq_false_iff_ne.mpr e).symm
theorem uL (a b:Str):decide ((D0 a:Key)=D0 b)=decide (a=b):=by
 by_cases e:a=b
 ·subst e; simp
 ·have h:¬ (D0 a:Key)=D0 b:=λ q=>e (Sum.inr.inj q)
  rw [decide_eq_false h,decide_eq_false e]
theorem uM (a:Int) (b:Str):decide ((DZ a:Key)=D0 b)=false:=decide_eq_false (λ q=>nomatch q)
theorem uN (a:Str) (b:Int):decide ((D0 a:Key)=DZ b)=false:=decide_eq_false (λ q=>nomatch q)
noncomputable def jM (prog:Program) (w:World):PySem.KeyKind prog w Key where
 is:=uJ
 hash:=zo w
 inj:=λ v a b ha hb=>by
  rcases aW ha with ⟨i,t,rfl,rfl⟩ | ⟨x,t,rfl,rfl⟩
  ·rcases aW hb with ⟨j,u,rfl,e⟩ | ⟨y,u,rfl,e⟩
   ·injection e with e1 _; rw [e1]
   ·exact nomatch e
  ·rcases aW hb with ⟨j,u,rfl,e⟩ | ⟨y,u,rfl,e⟩
   ·exact nomatch e
   ·injection e with e1 _; rw [e1]
 byValue:=λ k v h=>by
  rcases aW h with ⟨i,t,rfl,rfl⟩ | ⟨x,t,rfl,rfl⟩<;>rfl
 pyHash:=λ hv h=>by
  rcases aW hv with ⟨i,t,rfl,rfl⟩ | ⟨x,t,rfl,rfl⟩
  ·exact wpAny_pyHash_int h
  ·exact wpAny_pyHash_str h
 eqBool:=λ hu hv h=>by
  rcases aW hu with ⟨i,t,rfl,rfl⟩ | ⟨x,t,rfl,rfl⟩
  ·rcases aW hv with ⟨j,u,rfl,rfl⟩ | ⟨y,u,rfl,rfl⟩
   ·rw [uK] at h; exact wpAny_eqBool_int h
   ·rw [uM] at h; exact Hm i t y u _ _ _ _ h
  ·rcases aW hv with ⟨j,u,rfl,rfl⟩ | ⟨y,u,rfl,rfl⟩
   ·rw [uN] at h; exact Hn x t j u _ _ _ _ h
   ·rw [uL] at h; exact wpAny_eqBool_str h
 «strs»:=λ k x t v h=>by
  rcases aW h with ⟨i,u,rfl,e⟩ | ⟨y,u,rfl,e⟩
  ·exact nomatch e
  ·injection e with e1 _
   subst e1
   cases v<;>rfl
inductive V where
 | non | bl (b:Bool) | int (i:Int) | str (x:Str) | byt (b:Array UInt8) | flt (b:UInt64) | ref (a:Addr) | ty (n:String)
 deriving DecidableEq
noncomputable def RelV:V->Value->Prop
 | .non,u=>u=AT
 | .bl b,u=>u=C3 b
 | .int i,u=>∃ t,u=Ef i t
 | .str x,u=>∃ t,u=EY x t
 | .byt b,u=>∃ t,u=G6 b t
 | .flt b,u=>∃ t,u=Fy b t
 | .ref a,u=>u=Aw a
 | .ty n,u=>u=BX n
noncomputable abbrev Vals:List V->List Value->Prop:=Paired RelV
theorem Vals.length {xs:List V} {us:List Value} (r:Vals xs us):xs.length=us.length:=Gp r
theorem Vals.get:∀ {xs:List V} {us:List Value} {i:Nat} {x:V},Vals xs us->xs[i]? = some x->∃ u,us[i]? = some u/\RelV x u
 | _,_,_,_,.nil,e=>by simp at e
 | _,_,0,_,.cons r _,e=>by simp at e; subst e; exact ⟨_,rfl,r⟩
 | _,_,i+1,x,.cons _ t,e=>by
  obtain ⟨u,h1,h2⟩:=Vals.get (i:=i) (x:=x) t (by simpa using e)
  exact ⟨u,by simpa using h1,h2⟩
theorem Vals.set {x:V} {u:Value} (r:RelV x u):∀ {xs:List V} {us:List Value} (i:Nat),Vals xs us->Vals (xs.set i x) (us.set i u)
 | _,_,_,.nil=>.nil
 | _,_,0,.cons _ t=>.cons r t
 | _,_,i+1,.cons q t=>.cons q (Vals.set r i t)
theorem Vals.append:∀ {xs ys:List V} {us ws:List Value},Vals xs us->Vals ys ws->Vals (xs++ys) (us++ws)
 | _,_,_,_,.nil,s=>s
 | _,_,_,_,.cons r t,s=>.cons r (Vals.append t s)
theorem Vals.take:∀ {xs:List V} {us:List Value} (n:Nat),Vals xs us->Vals (xs.take n) (us.take n)
 | _,_,0,_=>.nil
 | _,_,_+1,.nil=>.nil
 | _,_,n+1,.cons r t=>.cons r (Vals.take n t)
theorem Vals.drop:∀ {xs:List V} {us:List Value} (n:Nat),Vals xs us->Vals (xs.drop n) (us.drop n)
 | _,_,0,r=>r
 | _,_,_+1,.nil=>.nil
 | _,_,n+1,.cons _ t=>Vals.drop n t
noncomputable def RelO:Option V->Option Value->Prop
 | some v,some u=>RelV v u
 | none,none=>True
 | _,_=>False
noncomputable def KV {κ:Type}:List (κ×V)->List (κ×Value)->Prop:=Paired λ (p:κ×V) (q:κ×Value)=>p.1=q.1/\RelV p.2 q.2
noncomputable def kV:Key->V
 | .inl i=>.int i
 | .inr x=>.str x
inductive HO where
 /-- a list -/
 | lst (xs:List V)
 /-- a tuple (never changes) -/
 | tup (xs:List V)
 /-- a dict whose keys are ints and texts; one whose keys are tuples of ints and texts (the empty one is both) -/
 | dK (kvs:List (Key×V)) | dT (kvs:List (List Key×V))
 /-- a set of ints: its members,its size -/
 | set (S:Int->Bool) (n:Nat)
 /-- an instance of the class at C,its dict at dx,its attributes -/
 | ins (C dx:Addr) (fs:List (Str×V))
 /-- the dict of the instance at x -/
 | own (x:Addr)
 /-- the dict of an exception -/
 | xd (fs:List (Str×V))
 /-- a bound method,f of x -/
 | met (f x:Addr)
 /-- a range object lo,lo+1,.. below hi -/
 | rng (lo hi:Int)
 /-- a thing that is known to the object (the script; a dict while a loop walks it): read,never written while it is so -/
 | frz (o:Obj) (u:HO)
 /-- a code object's table -/
 | tbl (ps:Array Value)
 /-- any other thing,by what is true of its one object (a def of one's own: SetO a S n:=HO.ext λ h=>..) -/
 | ext (φ:Heap->Prop)
noncomputable abbrev Hp:=Addr->Option HO
noncomputable def upd (H:Hp) (a:Addr) (o:HO):Hp:=λ b=>if b=a then some o else H b
theorem aa {H:Hp} {a:Addr} {o:HO}:upd H a o a=some o:=by unfold upd; rw [if_pos rfl]
theorem aj {H:Hp} {a b:Addr} {o:HO} (h:b≠a):upd H a o b=H b:=by unfold upd; rw [if_neg h]
theorem rF {H:Hp} {a:Addr} {o u:HO}:upd (upd H a o) a u=upd H a u:=by
 funext b; unfold upd; split<;>rfl
theorem cm {H:Hp} {a b:Addr} {o u:HO} (h:H a=some o) (h':H b=some u) (d:o≠u):a≠b:=by
 intro e; subst e; rw [h] at h'; exact d (Ba h')
theorem ak {H:Hp} {a b:Addr} {o:HO} (h:H a=some o) (h':H b=none):a≠b:=by
 intro e; subst e; rw [h] at h'; cases h'
section
variable (P:Program) (w:World)
noncomputable def ObjOk (H:Hp) (h:Heap) (a:Addr):HO->Prop
 | .lst xs=>xs.length<=sizeLine/\∃ (its:List Value) (n:Nat),Vals xs its/\h.get? a=some { cls:=.type "list",data:=.seq its.toArray n }
 | .tup xs=>xs.length<=sizeLine/\∃ its:List Value,Vals xs its/\IsTup h a its.toArray
 | .dK kvs=>kvs.length<=sizeLine/\(a == sysModules)=false/\∃ vs,KV kvs vs/\h.DictOf (jM P w) a vs
 | .dT kvs=>kvs.length<=sizeLine/\(a == sysModules)=false/\∃ xs:List (List Key×Addr×Value),
   Paired (λ (p:List Key×V) (q:List Key×Addr×Value)=>p.1=q.1/\H q.2.1=some (.tup (p.1.map kV))/\RelV p.2 q.2.2) kvs xs/\
   ∃ o es ep,h.get? a=some o/\o.ExactDict/\o.data=.dict es ep/\es.toList=xs.map (entryOfKey (tupleKind (jM P w)))/\(xs.map (·.1)).Nodup
 | .set S n=>h.SetOf (intKind P w) a S n
 | .ins C dx fs=>H dx=some (.own a)/\fs.length<=1000/\dx≠a/\h.get? a=some (BK C dx)/\
   ∃ mA,h.Ns1 dx mA/\(∀ f,RelO (fs.lookup f) (mA f))/\EZ mA (fs.map (·.1))
 | .own _=>∃ o,h.get? a=some o
 | .xd fs=>∃ mA,h.Ns1 a mA/\∀ f,RelO (fs.lookup f) (mA f)
 | .rng lo hi=>∃ t u v,h.get? a=some { cls:=.type "range",data:=.fields #[.int lo t,.int hi u,.int 1 v] }
 | .frz o u=>h.get? a=some o/\ObjOk H h a u
 | .tbl ps=>h.get? a=some { cls:=.none,data:=.fields ps }
 | .met f x=>h.get? a=some (DR (.ref f) (.ref x))
 | .ext φ=>φ h/\(∃ o,h.get? a=some o)/\∀ h1 h2:Heap,φ h1->(∀ o,h1.get? a=some o->h2.get? a=some o)->φ h2
noncomputable def HOk (H:Hp) (h:Heap):Prop:=∀ a o,H a=some o->ObjOk P w H h a o
end
section
variable {P:Program} {w:World} {H H':Hp} {h h':Heap} {a:Addr} {o:HO}
theorem ObjOk.lt (x:ObjOk P w H h a o):a<h.objs.size:=by
 cases o with
 | lst xs=>obtain ⟨_,_,_,_,e⟩:=x; exact Am e
 | tup xs=>obtain ⟨_,_,_,p⟩:=x; exact p.lt
 | dK kvs=>obtain ⟨_,_,_,_,o,_,_,e,_⟩:=x; exact Am e
 | dT kvs=>obtain ⟨_,_,_,_,o,_,_,e,_⟩:=x; exact Am e
 | set S n=>obtain ⟨o,_,_,_,e,_⟩:=x; exact Am e
 | ins C dx fs=>obtain ⟨_,_,_,e,_⟩:=x; exact Am e
 | own y=>obtain ⟨_,e⟩:=x; exact Am e
 | xd fs=>obtain ⟨_,⟨_,_,_,e,_⟩,_⟩:=x; exact Am e
 | rng lo hi=>obtain ⟨_,_,_,e⟩:=x; exact Am e
 | frz ob u=>obtain ⟨e,_⟩:=x; exact Am e
 | tbl ps=>exact Am (show h.get? a=some _ from x)
 | met f y=>exact Am (show h.get? a=some _ from x)
 | ext φ=>obtain ⟨_,⟨_,e⟩,_⟩:=x; exact Am e
theorem Paired.mapP {α β:Type} {F G:α->β->Prop}:∀ {l₁:List α} {l₂:List β},Paired F l₁ l₂->(∀ a b,F a b->G a b)->Paired G l₁ l₂
 | _,_,.nil,_=>.nil
 | _,_,.cons r t,f=>.cons (f _ _ r) (Paired.mapP t f)
theorem ObjOk.stay (x:ObjOk P w H h a o) (k:∀ b u,(b=a\/H b=some (.own a))->h.get? b=some u->h'.get? b=some u)
  (ho:∀ b,H b=some (.own a)->H' b=some (.own a)) (ht:∀ b xs,H b=some (.tup xs)->H' b=some (.tup xs)):ObjOk P w H' h' a o:=by
 induction o with
 | lst xs=>obtain ⟨z,its,n,r,e⟩:=x; exact ⟨z,its,n,r,k _ _ (.inl rfl) e⟩
 | tup xs=>obtain ⟨z,its,r,ob,e,c⟩:=x; exact ⟨z,its,r,ob,k _ _ (.inl rfl) e,c⟩
 | dK kvs=>obtain ⟨z,y,vs,r,ob,es,ep,e,c⟩:=x; exact ⟨z,y,vs,r,ob,es,ep,k _ _ (.inl rfl) e,c⟩
 | dT kvs=>
  obtain ⟨z,y,xs,r,ob,es,ep,e,c⟩:=x
  exact ⟨z,y,xs,Paired.mapP r λ p q z=>⟨z.1,ht _ _ z.2.1,z.2.2⟩,ob,es,ep,k _ _ (.inl rfl) e,c⟩
 | set S n=>obtain ⟨ob,es,ep,t,e,c⟩:=x; exact ⟨ob,es,ep,t,k _ _ (.inl rfl) e,c⟩
 | ins C dx fs=>
  obtain ⟨d,z,ne,e,mA,⟨od,es,ep,e2,c⟩,r⟩:=x
  exact ⟨ho _ d,z,ne,k _ _ (.inl rfl) e,mA,⟨od,es,ep,k _ _ (.inr d) e2,c⟩,r⟩
 | own y=>obtain ⟨ob,e⟩:=x; exact ⟨ob,k _ _ (.inl rfl) e⟩
 | xd fs=>obtain ⟨mA,⟨od,es,ep,e,c⟩,r⟩:=x; exact ⟨mA,⟨od,es,ep,k _ _ (.inl rfl) e,c⟩,r⟩
 | rng lo hi=>obtain ⟨t,u,v,e⟩:=x; exact ⟨t,u,v,k _ _ (.inl rfl) e⟩
 | frz ob u ih=>obtain ⟨e,q⟩:=x; exact ⟨k _ _ (.inl rfl) e,ih q⟩
 | tbl ps=>
  have e:h.get? a=some { cls:=.none,data:=.fields ps }:=x
  show h'.get? a=some { cls:=.none,data:=.fields ps }
  exact k a _ (.inl rfl) e
 | met f y=>
  have e:h.get? a=some (DR (.ref f) (.ref y)):=x
  show h'.get? a=some (DR (.ref f) (.ref y))
  exact k a _ (.inl rfl) e
 | ext φ=>obtain ⟨p,⟨o,e⟩,st⟩:=x; exact ⟨st _ _ p λ o q=>k _ _ (.inl rfl) q,⟨o,k _ _ (.inl rfl) e⟩,st⟩
theorem HOk.lt (x:HOk P w H h) (e:H a=some o):a<h.objs.size:=(x a o e).lt
theorem HOk.fresh (x:HOk P w H h) (e:h.objs.size<=a):H a=none:=by
 cases q:H a with
 | none=>rfl
 | some u=>exact absurd (AA (x.lt q) e) (BC _)
theorem HOk.kept (x:HOk P w H h) (k:∀ b u,h.get? b=some u->h'.get? b=some u):HOk P w H h':=λ a o e=>
 (x a o e).stay (λ b u _ q=>k b u q) (λ _ q=>q) λ _ _ q=>q
theorem HOk.laid (x:HOk P w H h) (k:∀ b u,h.get? b=some u->h'.get? b=some u) (hp:h.objs.size<=a) (new:ObjOk P w (upd H a o) h' a o):HOk P w (upd H a o) h':=λ b u e=>by
 have hn:=x.fresh hp
 by_cases hb:b=a
 ·subst hb; rw [aa] at e; cases e; exact new
 ·rw [aj hb] at e
  exact (x b u e).stay (λ c v _ q=>k c v q) (λ c q=>by rw [aj (ak q hn)]; exact q) λ c xs q=>by rw [aj (ak q hn)]; exact q
end
noncomputable def Rd (H:Hp) (a:Addr) (u:HO):Prop:=H a=some u\/∃ o,H a=some (.frz o u)
theorem Rd.ok {P:Program} {w:World} {H:Hp} {h:Heap} {a:Addr} {u:HO} (r:Rd H a u) (x:HOk P w H h):ObjOk P w H h a u:=by
 rcases r with r | ⟨o,r⟩
 ·exact x a u r
 ·obtain ⟨_,q⟩:=x a _ r
  exact q
noncomputable def Mut:Option HO->Prop
 | some (.lst _)=>True
 | some (.dK _)=>True
 | some (.dT _)=>True
 | some (.set _ _)=>True
 | some (.ins _ _ _)=>True
 | some (.ext _)=>True
 | _=>False
section
variable {P:Program} {w:World} {H:Hp} {h h':Heap} {x e:Addr} {o':HO}
theorem HOk.write (ok:HOk P w H h) (mu:Mut (H x)) (he:e=x\/H e=some (.own x)) (k:∀ b u,b≠e->h.get? b=some u->h'.get? b=some u) (heo:∃ u,h'.get? e=some u)
  (new:ObjOk P w (upd H x o') h' x o'):HOk P w (upd H x o') h':=λ b u q=>by
 have nown:∀ c y,H c=some (.own y)->c≠x:=λ c y r z=>by subst z; rw [r] at mu; exact mu
 have ntup:∀ c xs,H c=some (.tup xs)->c≠x:=λ c xs r z=>by subst z; rw [r] at mu; exact mu
 by_cases hb:b=x
 ·subst hb; rw [aa] at q; cases q; exact new
 ·rw [aj hb] at q
  by_cases hbe:b=e
  ·have q':H b=some (.own x):=by
    rcases he with z | z
    ·exact absurd (hbe.trans z) hb
    ·rw [hbe]; exact z
   rw [q] at q'; cases q'
   obtain ⟨v,hv⟩:=heo
   exact ⟨v,by rw [hbe]; exact hv⟩
  ·refine (ok b u q).stay (λ c v hc r=>k c v ?_ r) (λ c r=>by rw [aj (nown c b r)]; exact r) λ c xs r=>by rw [aj (ntup c xs r)]; exact r
   rcases hc with rfl | hc
   ·exact hbe
   ·rintro rfl
    rcases he with z | z
    ·exact nown c b hc z
    ·rw [hc] at z; cases z; exact hb rfl
end
structure Un (fs ex:List Addr) (H H':Hp) (h h':Heap):Prop where
 keep:∀ b o,h.get? b=some o->H b=none->b∉fs->b∉ex->h'.get? b=some o
 slot:∀ b o,h.get? b=some o->H b=none->b∈fs->b∉ex->∃ sl,h'.get? b=some { o with slots:=sl }
 free:∀ b o,h.get? b=some o->H b=none->b∉ex->H' b=none
 there:∀ b o,h.get? b=some o->b∉ex->∃ o',h'.get? b=some o'
 tups:∀ b xs,H b=some (.tup xs)->H' b=some (.tup xs)
 frzs:∀ b o u,H b=some (.frz o u)->H' b=some (.frz o u)
 tbls:∀ b ps,H b=some (.tbl ps)->∃ more,H' b=some (.tbl (ps++more))
section
variable {fs fs' ex ex':List Addr} {H H1 H2:Hp} {h h1 h2 h':Heap} {a x e:Addr} {o:HO}
theorem Un.any (u:Un fs ex H H1 h h1) {b:Addr} {ob:Obj} (q:h.get? b=some ob) (n:H b=none) (hx:b∉ex):∃ sl,h1.get? b=some { ob with slots:=sl }:=by
 by_cases hb:b∈fs
 ·exact u.slot b ob q n hb hx
 ·exact ⟨ob.slots,u.keep b ob q n hb hx⟩
theorem Un.kept (k:∀ b u,h.get? b=some u->h'.get? b=some u):Un fs ex H H h h':=
 ⟨λ b ob q _ _ _=>k b ob q,λ b ob q _ _ _=>⟨ob.slots,k b ob q⟩,λ _ _ _ n _=>n,λ b ob q _=>⟨ob,k b ob q⟩,λ _ _ q=>q,λ _ _ _ q=>q,λ _ ps q=>⟨#[],by rw [q]; simp⟩⟩
theorem Un.refl:Un fs ex H H h h:=Un.kept λ _ _ q=>q
theorem Un.laid (k:∀ b u,h.get? b=some u->h'.get? b=some u) (hp:h.objs.size<=a) (hn:H a=none):Un fs ex H (upd H a o) h h' where
 keep:=λ b u q _ _ _=>k b u q
 slot:=λ b u q _ _ _=>⟨u.slots,k b u q⟩
 free:=λ b u q n _=>by rw [aj (AB (AA (Am q) hp))]; exact n
 there:=λ b u q _=>⟨u,k b u q⟩
 tups:=λ b xs q=>by rw [aj (ak q hn)]; exact q
 frzs:=λ b u xs q=>by rw [aj (ak q hn)]; exact q
 tbls:=λ b ps q=>⟨#[],by rw [aj (ak q hn),q]; simp⟩
theorem Un.write (mu:Mut (H x)) (he:e=x\/H e=some (.own x)) (k:∀ b u,b≠e->h.get? b=some u->h'.get? b=some u) (heo:∃ u,h'.get? e=some u):Un fs ex H (upd H x o) h h':=by
 have hx:∀ b,H b=none->b≠x:=λ b n z=>by subst z; rw [n] at mu; exact mu
 have hb:∀ b,H b=none->b≠e:=λ b n z=>by
  subst z
  rcases he with r | r
  ·exact hx b n r
  ·rw [n] at r; cases r
 have hm:∀ b u,H b=some u->¬ Mut (some u)->b≠x:=λ b u q nm z=>by subst z; rw [q] at mu; exact nm mu
 refine ⟨λ b u q n _ _=>k b u (hb b n) q,λ b u q n _ _=>⟨u.slots,k b u (hb b n) q⟩,λ b u q n _=>by rw [aj (hx b n)]; exact n,λ b u q _=>?_,
  λ b xs q=>by rw [aj (hm b _ q λ z=>z)]; exact q,λ b u xs q=>by rw [aj (hm b _ q λ z=>z)]; exact q,λ b ps q=>⟨#[],by rw [aj (hm b _ q λ z=>z),q]; simp⟩⟩
 by_cases hbe:b=e
 ·subst hbe; exact heo
 ·exact ⟨u,k b u hbe q⟩
end
noncomputable def trk (h:Heap) (H:Hp):List Addr:=(As h.objs.size).filter λ a=>(H a).isSome
noncomputable def pc (h:Heap) (H:Hp):Heap:=Cy h (trk h H)
theorem mi (h:Heap) (H:Hp):(pc h H).objs.size=h.objs.size:=PySem.W.hideAll_size _ _
theorem pf {h:Heap} {H:Hp} {b:Addr} {o:Obj} (e:h.get? b=some o) (n:H b=none):(pc h H).get? b=some o:=
 BM _ e λ hm=>by
  have q:(H b).isSome=true:=(FM.mp hm).2
  rw [n] at q; simp at q
theorem rG {h:Heap} {H:Hp} {b:Addr} {o:Obj} (e:(pc h H).get? b=some o):h.get? b=some o/\H b=none:=by
 have e':h.get? b=some o:=CU (trk h H) e
 refine ⟨e',?_⟩
 cases q:H b with
 | none=>rfl
 | some x=>
  have hm:b∈trk h H:=FM.mpr ⟨BD.mpr (Am e'),by simp [q]⟩
  have z:(pc h H).get? b=none:=Cg (trk h H) hm
  rw [z] at e; cases e
noncomputable def rH (g h:Heap) (L:Addr):List (Addr×Obj):=(As h.objs.size).filterMap λ a=>if a=L\/(g.get? a).isSome=true then none else (h.get? a).map λ o=>(a,o)
noncomputable def rest (g h:Heap) (L d:Addr):List (Addr×Obj):=(rH g h L).filter λ p=>decide (p.1≠d)
structure Mod (K:Ae) (mg:Str->Option Value) (base:Heap):Prop where
 kin:K.In base
 glob:base.Ns mainGlobals mg
 blt:∃ mb,base.Ns builtinsNs mb/\∀ x:Str,x≠"__name__"->mb x=bootBuiltins x
 nolimit:base.NoLimit
/-- the context: a def's body (or a comprehension's block) running. base: fixed through the whole law; s₀,H₀: the entry; outer: the frames whose slots others may change (a def's callers); stack: all frames that run;
   ex: iterators that were made ahead of the entry and are walked here (a comprehension's); fn: the names whose cells were made at the entry (a def: all; a comprehension's block: its own); calm: not within an except suite; pn: pins that every state bears; xe: what is wanted of an exception that leaves the code -/
structure Cx where
 prog:Program
 w:World
 K:Ae
 mg:Str->Option Value
 base:Heap
 A:Around
 N:List Str
 s₀:Shared
 H₀:Hp
 env:Env
 outer:List Env
 stack:List Env
 ex:List Addr
 fn:Str->Bool
 calm:Bool
 pn:List (Addr×Obj)
 xe:Value->Shared->Prop
noncomputable def frs (l:List Env):List Addr:=l.filterMap (·.frame)
noncomputable abbrev Cx.fs (X:Cx):List Addr:=frs X.outer
noncomputable def Vis (sc:Scope) (x:Str):Prop:=sc.names.lookup x=some .local\/sc.names.lookup x=some .cell\/sc.names.lookup x=some .free
noncomputable def Loc (sc:Scope) (x:Str):Prop:=sc.names.lookup x=some .local\/sc.names.lookup x=some .cell
noncomputable def zp (env:Env) (h:Heap) (m:Str->Option Value) (x:Str) (u:Value):Prop:=
 (env.kindOf x=some .local/\m x=some u)\/((env.kindOf x=some .cell\/env.kindOf x=some .free)/\∃ c,env.cells.lookup x=some c/\h.IsCell c (some u))
structure Cx.Ok (X:Cx):Prop where
 mod:Mod X.K X.mg X.base
 kind:X.env.scope.kind=.function
 glob:X.env.globals=mainGlobals
 blt:X.env.builtins=builtinsNs
 above:X.s₀.heap.objs.size<=X.env.locals
 inj:∀ x y c,X.env.cells.lookup x=some c->X.env.cells.lookup y=some c->x=y
 has:∀ x,(X.env.kindOf x=some .cell\/X.env.kindOf x=some .free)->∃ c,X.env.cells.lookup x=some c
 cab:∀ x c,X.fn x=true->X.env.cells.lookup x=some c->X.s₀.heap.objs.size<=c
 hd:X.calm=true->X.A.handled=none
 frames:X.A.frames=some X.stack
 stk:X.stack=X.outer\/(X.stack=X.env::X.outer/\X.env.frame=some X.env.locals)
 exf:∀ b∈X.ex,b≠X.env.locals/\∀ x c,X.env.cells.lookup x=some c->c≠b
 bs:∀ b o,X.base.get? b=some o->X.s₀.heap.get? b=some o/\X.H₀ b=none
 bsz:X.base.objs.size<=X.s₀.heap.objs.size
 noex:∀ b o,X.base.get? b=some o->b∉X.ex
 exfs:∀ b∈X.ex,b∉X.fs
 funs:X.s₀.heap.FunFrames X.base X.outer
 frf:∀ b∈X.fs,X.H₀ b=none
structure Inv (X:Cx) (pins:List (Addr×Obj)) (σ:List (Option V)) (H:Hp) (s:Shared):Prop where
 ok:X.Ok
 os:s.os=X.s₀.os
 bare:AllBare s.gens
 base:Un X.fs X.ex X.H₀ H X.s₀.heap s.heap
 loc:∃ m,s.heap.Ns X.env.locals m/\∀ (i:Nat) (x:Str) (v:V),X.N[i]? = some x->σ[i]? = some (some v)->Vis X.env.scope x->∃ u,RelV v u/\zp X.env s.heap m x u
 cell:∀ x c,X.env.cells.lookup x=some c->∃ v,s.heap.IsCell c v
 free:H X.env.locals=none
 freeC:∀ x c,X.env.cells.lookup x=some c->H c=none
 pin:∀ p∈X.pn++pins,s.heap.get? p.1=some p.2/\H p.1=none/\p.1≠X.env.locals/\p.1∉X.fs/\∀ v,p.2.data≠.cell v
 hok:HOk X.prog X.w H s.heap
 len:σ.length=X.N.length
section
variable {X:Cx} {pins:List (Addr×Obj)} {σ:List (Option V)} {H H':Hp} {s:Shared} {h':Heap}
theorem Cx.Ok.nofr (ok:X.Ok) {b:Addr} {o:Obj} (e:X.base.get? b=some o):b∉X.fs:=λ hb=>by
 have:=(ok.funs.mem hb).1
 rw [e] at this; cases this
theorem Inv.bs (I:Inv X pins σ H s):∀ b o,X.base.get? b=some o->s.heap.get? b=some o/\H b=none:=λ b o e=>
 ⟨I.base.keep b o (I.ok.bs b o e).1 (I.ok.bs b o e).2 (I.ok.nofr e) (I.ok.noex b o e),I.base.free b o (I.ok.bs b o e).1 (I.ok.bs b o e).2 (I.ok.noex b o e)⟩
theorem Inv.bk (I:Inv X pins σ H s):∀ b o,X.base.get? b=some o->s.heap.get? b=some o:=λ b o e=>(I.bs b o e).1
theorem Inv.mod (I:Inv X pins σ H s):Mod X.K X.mg X.base:=I.ok.mod
theorem Inv.kIn (I:Inv X pins σ H s):X.K.In s.heap:=I.ok.mod.kin.keeps I.bk
theorem Inv.lt (I:Inv X pins σ H s):X.env.locals<s.heap.objs.size:=let ⟨_,hn,_⟩:=I.loc; hn.lt
theorem Inv.sz (I:Inv X pins σ H s):X.s₀.heap.objs.size<=s.heap.objs.size:=Bg I.ok.above (BY I.lt)
theorem Inv.nofs (I:Inv X pins σ H s) {a:Addr} (h:s.heap.objs.size<=a):a∉X.fs:=λ hb=>by
 obtain ⟨_,o,ho,_⟩:=I.ok.funs.mem hb
 exact absurd (AA (Am ho) (Bg I.sz h)) (BC _)
theorem Inv.cne (I:Inv X pins σ H s):∀ x c,X.env.cells.lookup x=some c->c≠X.env.locals:=λ x c e z=>by
 obtain ⟨v,o,ho,hd⟩:=I.cell x c e
 obtain ⟨m,⟨o',es,ep,ho',hd',_⟩,_⟩:=I.loc
 rw [z,ho'] at ho; cases ho; rw [hd'] at hd; cases hd
theorem Inv.funs (I:Inv X pins σ H s):s.heap.FunFrames X.base X.outer:=by
 have all:∀ (l:List Env),(∀ b∈frs l,b∈X.fs)->X.s₀.heap.FunFrames X.base l->s.heap.FunFrames X.base l:=by
  intro l
  induction l with
  | nil=>intro _ _; trivial
  | cons env r ih=>
   intro hs hl
   obtain ⟨hk,⟨L,o,hf,hn,ho,hd⟩,hr⟩:=hl
   have hL:L∈X.fs:=hs L (by unfold frs; rw [Cu,hf]; exact A1)
   obtain ⟨sl,e⟩:=I.base.slot L o ho (I.ok.frf L hL) hL λ z=>I.ok.exfs L z hL
   exact ⟨hk,⟨L,_,hf,hn,e,hd⟩,ih (λ b hb=>hs b (by unfold frs; rw [Cu,hf]; exact AG _ hb)) hr⟩
 exact all X.outer (λ _ hb=>hb) I.ok.funs
theorem Inv.stack (I:Inv X pins σ H s):s.heap.FunFrames X.base X.stack:=by
 rcases I.ok.stk with e | ⟨e,hf⟩
 ·rw [e]; exact I.funs
 ·rw [e]
  obtain ⟨m,hn,_⟩:=I.loc
  refine .cons (by rw [I.ok.kind]; decide) hf hn ?_ I.funs
  exact Heap.get?_none_of_le (Bg I.ok.bsz I.ok.above)
theorem Inv.stkSub (I:Inv X pins σ H s):∀ b∈frs X.stack,b∈X.env.locals::X.fs:=λ b hb=>by
 rcases I.ok.stk with e | ⟨e,hf⟩
 ·rw [e] at hb; exact AG _ hb
 ·rw [e] at hb
  unfold frs at hb
  rw [Cu,hf] at hb
  exact hb
theorem Inv.stkFree (I:Inv X pins σ H s):∀ b∈frs X.stack,H b=none:=λ b hb=>by
 rcases Al.mp (I.stkSub b hb) with e | hb
 ·rw [e]; exact I.free
 ·obtain ⟨_,o,ho,_⟩:=I.ok.funs.mem hb
  exact I.base.free b o ho (I.ok.frf b hb) λ z=>I.ok.exfs b z hb
theorem Inv.step {g':Array GenState} {t':Nat} {d':Drawn} {ch:List Addr} (I:Inv X pins σ H s)
  (hch:∀ b∈ch,(b∈X.ex\/X.s₀.heap.objs.size<=b)/\b≠X.env.locals/\(∀ x c,X.env.cells.lookup x=some c->c≠b)/\∀ p∈X.pn++pins,p.1≠b)
  (keep:∀ b o,b≠X.env.locals->b∉X.fs->b∉ch->s.heap.get? b=some o->H b=none->h'.get? b=some o)
  (slot:∀ b o,b≠X.env.locals->b∈X.fs->b∉ch->s.heap.get? b=some o->H b=none->∃ sl,h'.get? b=some { o with slots:=sl }) (free:∀ b o,b∉ch->s.heap.get? b=some o->H b=none->H' b=none)
  (there:∀ b o,b∉ch->s.heap.get? b=some o->∃ o',h'.get? b=some o')
  (tups:∀ b xs,H b=some (.tup xs)->H' b=some (.tup xs)) (frzs:∀ b o u,H b=some (.frz o u)->H' b=some (.frz o u)) (tbls:∀ b ps,H b=some (.tbl ps)->∃ more,H' b=some (.tbl (ps++more)))
  (ns:∀ m,s.heap.Ns X.env.locals m->h'.Ns X.env.locals m) (hok:HOk X.prog X.w H' h') (hg:AllBare g') :
  Inv X pins σ H' { s with heap:=h',gens:=g',drawn:=d',toks:=t' }:=by
 have neL:∀ b o,X.s₀.heap.get? b=some o->b≠X.env.locals:=λ b o e=>AB (AA (Am e) I.ok.above)
 have neC:∀ b o,X.s₀.heap.get? b=some o->b∉X.ex->b∉ch:=λ b o e hx hb=>by
  rcases (hch b hb).1 with z | z
  ·exact hx z
  ·exact absurd (AA (Am e) z) (BC _)
 have cellK:∀ x c,X.env.cells.lookup x=some c->∀ v,s.heap.IsCell c v->h'.IsCell c v:=λ x c e v ⟨o,ho,hd⟩=>by
  have nch:c∉ch:=λ z=>(hch c z).2.2.1 x c e rfl
  by_cases hc:c∈X.fs
  ·obtain ⟨sl,q⟩:=slot c o (I.cne x c e) hc nch ho (I.freeC x c e)
   exact ⟨_,q,hd⟩
  ·exact ⟨o,keep c o (I.cne x c e) hc nch ho (I.freeC x c e),hd⟩
 refine ⟨I.ok,I.os,hg,⟨λ b o e n hb hx=>?_,λ b o e n hb hx=>?_,λ b o e n hx=>?_,λ b o e hx=>?_,λ b xs e=>tups b xs (I.base.tups b xs e),λ b o xs e=>frzs b o xs (I.base.frzs b o xs e),λ b ps e=>?_⟩,?_,λ x c e=>?_,?_,λ x c e=>?_,λ p hp=>?_,hok,I.len⟩
 ·exact keep b o (neL b o e) hb (neC b o e hx) (I.base.keep b o e n hb hx) (I.base.free b o e n hx)
 ·obtain ⟨sl,e1⟩:=I.base.slot b o e n hb hx
  obtain ⟨sl',e2⟩:=slot b _ (neL b o e) hb (neC b o e hx) e1 (I.base.free b o e n hx)
  exact ⟨sl',e2⟩
 ·obtain ⟨o',e1⟩:=I.base.there b o e hx
  exact free b o' (neC b o e hx) e1 (I.base.free b o e n hx)
 ·obtain ⟨o',e1⟩:=I.base.there b o e hx
  exact there b o' (neC b o e hx) e1
 ·obtain ⟨m1,e1⟩:=I.base.tbls b ps e
  obtain ⟨m2,e2⟩:=tbls b _ e1
  exact ⟨m1++m2,by rw [e2,Array.append_assoc]⟩
 ·obtain ⟨m,hn,hl⟩:=I.loc
  refine ⟨m,ns m hn,λ i x v e1 e2 e3=>?_⟩
  obtain ⟨u,r,l⟩:=hl i x v e1 e2 e3
  refine ⟨u,r,?_⟩
  rcases l with l | ⟨k,c,e,z⟩
  ·exact .inl l
  ·exact .inr ⟨k,c,e,cellK x c e _ z⟩
 ·obtain ⟨v,z⟩:=I.cell x c e
  exact ⟨v,cellK x c e v z⟩
 ·obtain ⟨m,⟨o,_,_,ho,_⟩,_⟩:=I.loc
  exact free _ o (λ z=>(hch _ z).2.1 rfl) ho I.free
 ·obtain ⟨v,o,ho,hd⟩:=I.cell x c e
  exact free c o (λ z=>(hch c z).2.2.1 x c e rfl) ho (I.freeC x c e)
 ·obtain ⟨e,n,ne,nf,d⟩:=I.pin p hp
  have nch:p.1∉ch:=λ z=>(hch p.1 z).2.2.2 p hp rfl
  exact ⟨keep p.1 p.2 ne nf nch e n,free p.1 p.2 nch e n,ne,nf,d⟩
theorem Inv.un {t':Nat} (I:Inv X pins σ H s) (u:Un X.fs [] H H' s.heap h') (hok:HOk X.prog X.w H' h'):Inv X pins σ H' { s with heap:=h',toks:=t' }:=by
 obtain ⟨m,⟨o,es,ep,ho,r⟩,_⟩:=id I.loc
 obtain ⟨sl,hL⟩:=u.any ho I.free (by simp)
 exact I.step (g':=s.gens) (d':=s.drawn) (ch:=[]) (λ _ z=>nomatch z) (λ b o _ hb _ e n=>u.keep b o e n hb (by simp)) (λ b o _ hb _ e n=>u.slot b o e n hb (by simp)) (λ b o _ e n=>u.free b o e n (by simp)) (λ b o _ e=>u.there b o e (by simp)) u.tups u.frzs u.tbls (λ m' hm=>by
  obtain ⟨o',es',ep',ho',r'⟩:=hm
  rw [ho] at ho'; cases ho'
  exact ⟨_,es',ep',hL,r'⟩) hok I.bare
theorem Inv.call {g':Array GenState} {t':Nat} {d':Drawn} {ch:List Addr} (I:Inv X pins σ H s) (u:Un (frs X.stack) ch H H' s.heap h') (hok:HOk X.prog X.w H' h') (hg:AllBare g')
  (hch:∀ b∈ch,(b∈X.ex\/X.s₀.heap.objs.size<=b)/\b≠X.env.locals/\(∀ x c,X.env.cells.lookup x=some c->c≠b)/\∀ p∈X.pn++pins,p.1≠b) :
  Inv X pins σ H' { s with heap:=h',gens:=g',drawn:=d',toks:=t' }:=by
 obtain ⟨m,⟨o,es,ep,ho,r⟩,_⟩:=id I.loc
 obtain ⟨sl,hL⟩:=u.any ho I.free λ z=>(hch _ z).2.1 rfl
 exact I.step (ch:=ch) hch (λ b o hL hb hc e n=>u.keep b o e n (λ z=>(Al.mp (I.stkSub b z)).elim hL hb) hc) (λ b o _ _ hc e n=>u.any e n hc) (λ b o hc e n=>u.free b o e n hc) (λ b o hc e=>u.there b o e hc) u.tups u.frzs u.tbls (λ m' hm=>by
  obtain ⟨o',es',ep',ho',r'⟩:=hm
  rw [ho] at ho'; cases ho'
  exact ⟨_,es',ep',hL,r'⟩) hok hg
theorem Inv.turned {t':Nat} {it:Addr} (I:Inv X pins σ H s) (k:∀ b o,b≠it->s.heap.get? b=some o->h'.get? b=some o) (hn:H it=none) (hL:it≠X.env.locals)
  (h1:it∈X.ex\/X.s₀.heap.objs.size<=it) (h2:∀ x c,X.env.cells.lookup x=some c->c≠it) (h3:∀ p∈X.pn++pins,p.1≠it):Inv X pins σ H { s with heap:=h',toks:=t' }:=by
 have nit:∀ b u,H b=some u->b≠it:=λ b u e z=>by rw [z,hn] at e; cases e
 refine I.step (g':=s.gens) (d':=s.drawn) (ch:=[it]) (λ b hb=>?_) (λ b o _ _ hc e _=>k b o (λ z=>hc (by simp [z])) e) (λ b o _ _ hc e _=>⟨o.slots,k b o (λ z=>hc (by simp [z])) e⟩) (λ _ _ _ _ n=>n)
  (λ b o hc e=>⟨o,k b o (λ z=>hc (by simp [z])) e⟩) (λ _ _ e=>e) (λ _ _ _ e=>e) (λ b ps e=>⟨#[],by rw [e]; simp⟩) (λ m hm=>?_) (λ b u e=>?_) I.bare
 ·have e:b=it:=by simpa using hb
  subst e
  exact ⟨h1,hL,h2,h3⟩
 ·obtain ⟨o,es,ep,ho,r⟩:=hm
  exact ⟨o,es,ep,k _ o (AV hL) ho,r⟩
 ·refine (I.hok b u e).stay (λ c v hc q=>k c v ?_ q) (λ _ q=>q) λ _ _ q=>q
  rcases hc with z | z
  ·rw [z]; exact nit b u e
  ·exact nit c _ z
theorem Inv.tok (I:Inv X pins σ H s) (t:Nat):Inv X pins σ H { s with toks:=t }:=I.un (h':=s.heap) (t':=t) Un.refl I.hok
theorem Inv.kept {t':Nat} (I:Inv X pins σ H s) (k:∀ b u,s.heap.get? b=some u->h'.get? b=some u):Inv X pins σ H { s with heap:=h',toks:=t' }:=I.un (Un.kept k) (I.hok.kept k)
theorem Inv.laid {a:Addr} {o:HO} {t':Nat} (I:Inv X pins σ H s) (k:∀ b u,s.heap.get? b=some u->h'.get? b=some u) (hp:s.heap.objs.size<=a) (new:ObjOk X.prog X.w (upd H a o) h' a o) :
  Inv X pins σ (upd H a o) { s with heap:=h',toks:=t' }:=I.un (Un.laid k hp (I.hok.fresh hp)) (I.hok.laid k hp new)
theorem Inv.write {x e:Addr} {o:HO} {t':Nat} (I:Inv X pins σ H s) (mu:Mut (H x)) (he:e=x\/H e=some (.own x)) (k:∀ b u,b≠e->s.heap.get? b=some u->h'.get? b=some u) (heo:∃ u,h'.get? e=some u)
  (new:ObjOk X.prog X.w (upd H x o) h' x o):Inv X pins σ (upd H x o) { s with heap:=h',toks:=t' }:=I.un (Un.write mu he k heo) (I.hok.write mu he k heo new)
theorem Inv.pins_of {pins':List (Addr×Obj)} (I:Inv X pins σ H s) (h:∀ p∈pins',s.heap.get? p.1=some p.2/\H p.1=none/\p.1≠X.env.locals/\p.1∉X.fs/\∀ v,p.2.data≠.cell v):Inv X pins' σ H s:=
 ⟨I.ok,I.os,I.bare,I.base,I.loc,I.cell,I.free,I.freeC,λ p hp=>(AO.mp hp).elim (λ z=>I.pin p (EJ _ z)) (h p),I.hok,I.len⟩
theorem ik {N:List Str} (hN:N.Nodup) {i j:Nat} {x:Str} (a:N[i]? = some x) (b:N[j]? = some x):i=j:=by
 obtain ⟨h1,e1⟩:=AH.mp a
 obtain ⟨h2,e2⟩:=AH.mp b
 exact (D1 hN).mp (e1.trans e2.symm)
theorem mj {M:Model} {A:Around} {E:Value->Shared->Prop} {i:Nat} {x:Str} {v:V} {u:Value} {Q:Unit->Shared->Prop} (I:Inv X pins σ H s) (hN:X.N.Nodup) (hi:X.N[i]? = some x) (hx:Loc X.env.scope x) (r:RelV v u)
  (h:∀ s',Inv X pins (σ.set i (some v)) H s'->(∃ a,D4 a s.heap s'.heap/\(a=X.env.locals\/X.env.cells.lookup x=some a))->Q () s') (hf:X.fn x=true\/X.env.scope.names.lookup x=some .local:=by first | exact .inl rfl | exact .inr rfl | assumption):wpAny M A (storeName X.env x u) Q E s:=by
 obtain ⟨m,hn,hl⟩:=id I.loc
 have hcls:(X.env.scope.kind == .class || (X.env.scope.kind == .module && X.env.locals != X.env.globals))=false:=by rw [I.ok.kind]; rfl
 have hiσ:i<σ.length:=by rw [I.len]; exact (AH.mp hi).1
 have cne:=I.cne
 have tracked:∀ {a:Addr} {h':Heap},(∃ o,s.heap.get? a=some o/\H a=none)->D4 a s.heap h'->HOk X.prog X.w H h':=λ {a h'} ha hs b ob e=>by
  obtain ⟨_,_,hfree⟩:=ha
  refine (I.hok b ob e).stay (λ c w' hc q=>(hs.2 c ?_).trans q) (λ _ q=>q) λ _ _ q=>q
  rintro rfl
  rcases hc with rfl | hc
  ·rw [hfree] at e; cases e
  ·rw [hfree] at hc; cases hc
 rcases hx with hk | hk
 ·refine wpAny_storeName_local hk hn (λ h' hn' hs=>?_) hcls
  obtain ⟨oL,_,_,hoL,_⟩:=id hn
  refine h _ ⟨I.ok,I.os,I.bare,⟨λ b o e n hb hx=>?_,λ b o e n hb hx=>?_,I.base.free,λ b o e hx=>?_,I.base.tups,I.base.frzs,I.base.tbls⟩,⟨_,hn',λ j y v' e1 e2 e3=>?_⟩,λ y c e=>?_,I.free,I.freeC,λ p hp=>?_,tracked ⟨oL,hoL,I.free⟩ hs,by simpa using I.len⟩ ⟨_,hs,.inl rfl⟩
  ·exact (hs.2 b (AB (AA (Am e) I.ok.above))).trans (I.base.keep b o e n hb hx)
  ·obtain ⟨sl,e1⟩:=I.base.slot b o e n hb hx
   exact ⟨sl,(hs.2 b (AB (AA (Am e) I.ok.above))).trans e1⟩
  ·obtain ⟨o',e1⟩:=I.base.there b o e hx
   exact ⟨o',(hs.2 b (AB (AA (Am e) I.ok.above))).trans e1⟩
  ·by_cases hj:j=i
   ·subst hj
    rw [hi] at e1; cases e1
    rw [BE hiσ] at e2
    cases e2
    exact ⟨u,r,.inl ⟨hk,by simp⟩⟩
   ·rw [BZ (AV hj)] at e2
    obtain ⟨u',r',q⟩:=hl j y v' e1 e2 e3
    refine ⟨u',r',?_⟩
    rcases q with ⟨k,e⟩ | ⟨k,c,e,z⟩
    ·refine .inl ⟨k,?_⟩
     have:y≠x:=λ e=>hj (ik hN e1 (e▸hi))
     simp [this,e]
    ·exact .inr ⟨k,c,e,z.sameBut hs (cne y c e)⟩
  ·obtain ⟨w',z⟩:=I.cell y c e
   exact ⟨w',z.sameBut hs (cne y c e)⟩
  ·obtain ⟨e,n,ne,nf,d⟩:=I.pin p hp
   exact ⟨(hs.2 p.1 ne).trans e,n,ne,nf,d⟩
 ·have hfn:X.fn x=true:=by
   rcases hf with z | z
   ·exact z
   ·rw [z] at hk; cases hk
  obtain ⟨c,hc⟩:=I.ok.has x (.inl hk)
  obtain ⟨w',z⟩:=I.cell x c hc
  refine wpAny_storeName_cell I.ok.kind hk hc z (λ h' hc' hs=>?_)
  obtain ⟨oc,hoc,hocd⟩:=id z
  refine h { s with heap:=h' } ⟨I.ok,I.os,I.bare,⟨λ b o e n hb hx=>?_,λ b o e n hb hx=>?_,I.base.free,λ b o e hx=>?_,I.base.tups,I.base.frzs,I.base.tbls⟩,⟨m,hn.sameBut hs (AV (cne x c hc)),λ j y v' e1 e2 e3=>?_⟩,λ y c' e=>?_,I.free,I.freeC,λ p hp=>?_,tracked ⟨oc,hoc,I.freeC x c hc⟩ hs,by simpa using I.len⟩ ⟨c,hs,.inr hc⟩
  ·exact (hs.2 b (AB (AA (Am e) (I.ok.cab x c hfn hc)))).trans (I.base.keep b o e n hb hx)
  ·obtain ⟨sl,e1⟩:=I.base.slot b o e n hb hx
   exact ⟨sl,(hs.2 b (AB (AA (Am e) (I.ok.cab x c hfn hc)))).trans e1⟩
  ·obtain ⟨o',e1⟩:=I.base.there b o e hx
   exact ⟨o',(hs.2 b (AB (AA (Am e) (I.ok.cab x c hfn hc)))).trans e1⟩
  ·by_cases hj:j=i
   ·subst hj
    rw [hi] at e1; cases e1
    rw [BE hiσ] at e2
    cases e2
    exact ⟨u,r,.inr ⟨.inl hk,c,hc,hc'⟩⟩
   ·rw [BZ (AV hj)] at e2
    obtain ⟨u',r',q⟩:=hl j y v' e1 e2 e3
    refine ⟨u',r',?_⟩
    rcases q with q | ⟨k,c',e,z'⟩
    ·exact .inl q
    ·refine .inr ⟨k,c',e,z'.sameBut hs ?_⟩
     rintro rfl
     exact hj (ik hN e1 (I.ok.inj _ _ _ e hc▸hi))
  ·by_cases hcc:c'=c
   ·subst hcc; exact ⟨_,hc'⟩
   ·obtain ⟨w2,z2⟩:=I.cell y c' e
    exact ⟨w2,z2.sameBut hs hcc⟩
  ·obtain ⟨e,n,ne,nf,d⟩:=I.pin p hp
   refine ⟨(hs.2 p.1 ?_).trans e,n,ne,nf,d⟩
   intro q
   rw [q,hoc] at e
   have q':oc=p.2:=Ba e
   exact d w' (by rw [<-q']; exact hocd)
theorem di {M:Model} {A:Around} {E:Value->Shared->Prop} {i:Nat} {x:Str} {v:V} {u:Value} {Q:Unit->Shared->Prop} (I:Inv X pins σ H s) (hN:X.N.Nodup) (hi:X.N[i]? = some x) (hx:Loc X.env.scope x) (r:RelV v u)
  (h:∀ s',Inv X pins (σ.set i (some v)) H s'->Q () s') (hf:X.fn x=true\/X.env.scope.names.lookup x=some .local:=by first | exact .inl rfl | exact .inr rfl | assumption):wpAny M A (storeName X.env x u) Q E s:=
 mj I hN hi hx r (λ s' I' _=>h s' I') hf
theorem Inv.call' {s':Shared} {ch:List Addr} (I:Inv X pins σ H s) (ho:s'.os=s.os) (u:Un (frs X.stack) ch H H' s.heap s'.heap) (hok:HOk X.prog X.w H' s'.heap) (hg:AllBare s'.gens)
  (hch:∀ b∈ch,(b∈X.ex\/X.s₀.heap.objs.size<=b)/\b≠X.env.locals/\(∀ x c,X.env.cells.lookup x=some c->c≠b)/\∀ p∈X.pn++pins,p.1≠b):Inv X pins σ H' s':=by
 obtain ⟨h',g',d',t',o'⟩:=s'
 have e:o'=s.os:=ho
 subst e
 exact I.call (g':=g') (t':=t') (d':=d') u hok hg hch
end
noncomputable abbrev XK:=Value->Option Addr->Hp->Prop
noncomputable abbrev St:=List (Option V)
noncomputable abbrev VK:=V->Hp->Prop
noncomputable abbrev TE:=St->Hp->VK->Prop
noncomputable abbrev TT:=St->Hp->(Bool->Hp->Prop)->Prop
noncomputable abbrev TA:=St->Hp->(List V->Hp->Prop)->Prop
structure Ends where
 nx:St->Hp->Prop
 rt:VK
 bk:St->Hp->Prop:=λ _ _=>False
 ct:St->Hp->Prop:=λ _ _=>False
noncomputable abbrev TS:=Ends->St->Hp->Prop
noncomputable def EP (X:Cx) (pins:List (Addr×Obj)) (σ:St) (Q:VK) (u:Value) (s':Shared):Prop:=∃ v H',Inv X pins σ H' s'/\RelV v u/\Q v H'
noncomputable def TP (X:Cx) (pins:List (Addr×Obj)) (σ:St) (Q:Bool->Hp->Prop) (b:Bool) (s':Shared):Prop:=∃ H',Inv X pins σ H' s'/\Q b H'
noncomputable def AP (X:Cx) (pins:List (Addr×Obj)) (σ:St) (Q:List V->Hp->Prop) (us:List Value) (s':Shared):Prop:=∃ vs H',Inv X pins σ H' s'/\Vals vs us/\Q vs H'
noncomputable def SP (X:Cx) (pins:List (Addr×Obj)) (D:Ends) (f:Flow) (s':Shared):Prop:=
 match f with
 | .next=>∃ σ' H',Inv X pins σ' H' s'/\D.nx σ' H'
 | .brk=>∃ σ' H',Inv X pins σ' H' s'/\D.bk σ' H'
 | .cont=>∃ σ' H',Inv X pins σ' H' s'/\D.ct σ' H'
 | .ret u=>∃ v σ' H',Inv X pins σ' H' s'/\RelV v u/\D.rt v H'
noncomputable def PE (X:Cx) (e:Expr) (t:TE):Prop:=
 ∀ (pins:List (Addr×Obj)) (s:Shared) (σ:St) (H:Hp) (Q:VK),Inv X pins σ H s->t σ H Q->wpAny (model X.prog X.w) X.A (eval e X.env) (EP X pins σ Q) X.xe s
noncomputable def PT (X:Cx) (e:Expr) (t:TT):Prop:=
 ∀ (pins:List (Addr×Obj)) (s:Shared) (σ:St) (H:Hp) (Q:Bool->Hp->Prop),Inv X pins σ H s->t σ H Q->wpAny (model X.prog X.w) X.A (isTrue e X.env (eval e X.env)) (TP X pins σ Q) X.xe s
noncomputable def PW (X:Cx) (e:Expr) (t:TT):Prop:=
 ∀ (whole:Sem Value) (pins:List (Addr×Obj)) (s:Shared) (σ:St) (H:Hp) (Q:Bool->Hp->Prop),Inv X pins σ H s->t σ H Q->wpAny (model X.prog X.w) X.A (isTrue e X.env whole) (TP X pins σ Q) X.xe s
theorem PW.pt {X:Cx} {e:Expr} {t:TT} (h:PW X e t):PT X e t:=h _
noncomputable def PA (X:Cx) (es:List Expr) (t:TA):Prop:=
 ∀ (pos:Pos) (pins:List (Addr×Obj)) (s:Shared) (σ:St) (H:Hp) (Q:List V->Hp->Prop),Inv X pins σ H s->t σ H Q->wpAny (model X.prog X.w) X.A (spliced (backTo pos (starEach es X.env))) (AP X pins σ Q) X.xe s
noncomputable def PS (X:Cx) (st:Stmt) (t:TS):Prop:=
 ∀ (pins:List (Addr×Obj)) (s:Shared) (σ:St) (H:Hp) (D:Ends),Inv X pins σ H s->t D σ H->wpAny (model X.prog X.w) X.A (exec st X.env) (SP X pins D) X.xe s
noncomputable def PSs (X:Cx) (st:List Stmt) (t:TS):Prop:=
 ∀ (pins:List (Addr×Obj)) (s:Shared) (σ:St) (H:Hp) (D:Ends),Inv X pins σ H s->t D σ H->wpAny (model X.prog X.w) X.A (execs st X.env) (SP X pins D) X.xe s
theorem thn {α:Type} {t:Sem α} {Q Q':α->Shared->Prop} {M:Model} {A:Around} {E:Value->Shared->Prop} {s:Shared} (h:wpAny M A t Q E s) (hQ:∀ a s,Q a s->Q' a s):wpAny M A t Q' E s:=wpAny_mono h hQ λ _ _ x=>x
section
variable {X:Cx}
theorem bin {a b:Expr} {ta tb:TE} (ha:PE X a ta) (hb:PE X b tb) {pins:List (Addr×Obj)} {s:Shared} {σ:St} {H:Hp} {R:V->V->Hp->Prop} (I:Inv X pins σ H s) (h:ta σ H λ x H1=>tb σ H1 λ y H2=>R x y H2)
  {α:Type} {Q:α->Shared->Prop} {f:Value->Value->Sem α}
  (hf:∀ v u s2 x y H2,Inv X pins σ H2 s2->RelV x v->RelV y u->R x y H2->wpAny (model X.prog X.w) X.A (f v u) Q X.xe s2) :
  wpAny (model X.prog X.w) X.A (eval a X.env) (λ v s₁=>wpAny (model X.prog X.w) X.A (eval b X.env) (λ u s₂=>wpAny (model X.prog X.w) X.A (f v u) Q X.xe s₂) X.xe s₁) X.xe s:=by
 refine thn (ha pins s σ H _ I h) λ v s1 ⟨x,H1,I1,r1,q1⟩=>?_
 refine thn (hb pins s1 σ H1 _ I1 q1) λ u s2 ⟨y,H2,I2,r2,q2⟩=>?_
 exact hf v u s2 x y H2 I2 r1 r2 q2
noncomputable def w5 (i:Nat):TE:=λ σ H Q=>∃ v,σ[i]? = some (some v)/\Q v H
noncomputable def tC (v:V):TE:=λ _ H Q=>Q v H
theorem uO {i:Nat} {x:Str} {pos:Pos} (hN:X.N[i]? = some x) (hv:Vis X.env.scope x) (hd:(x == ("__debug__" : Str))=false:=by decide) (hcd:(x == ("__classdict__" : Str))=false:=by decide):PE X (.Name x pos) (w5 i):=by
 intro pins s σ H Q I h
 obtain ⟨v,e,h⟩:=h
 obtain ⟨m,hn,hl⟩:=I.loc
 obtain ⟨u,r,l⟩:=hl i x v hN e hv
 have fin:EP X pins σ Q u s:=⟨v,H,I,r,h⟩
 rcases l with ⟨hk,hm⟩ | ⟨hk,c,hc,hcell⟩
 ·exact wpAny_Name (wpAny_loadName_local I.ok.kind hk hn hm fin) hd
 ·rcases hk with hk | hk
  ·exact wpAny_Name (wpAny_loadName_cell I.ok.kind hk hc hcell fin) hd
  ·exact wpAny_Name (wpAny_loadName_free I.ok.kind hk hc hcell fin hcd) hd
theorem uP {i j pos}:PE X (.Constant (.int i) j pos) (tC (.int i)):=λ _ _ _ H _ I h=>wpAny_Constant_int ⟨.int i,H,I.tok _,⟨_,rfl⟩,h⟩
theorem w6 {b j pos}:PE X (.Constant (.bool b) j pos) (tC (.bl b)):=λ _ _ _ H _ I h=>Constant_bool ⟨.bl b,H,I,rfl,h⟩
theorem uQ {j pos}:PE X (.Constant .none j pos) (tC .non):=λ _ _ _ H _ I h=>Constant_none ⟨.non,H,I,rfl,h⟩
theorem uR {x j pos}:PE X (.Constant (.str x) j pos) (tC (.str x)):=λ _ _ _ H _ I h=>DF ⟨.str x,H,I.tok _,⟨_,rfl⟩,h⟩
noncomputable def Gl (X:Cx) (x:Str):Prop:=X.env.kindOf x=some .globalImplicit
theorem dL {E:Value->Shared->Prop} {pins:List (Addr×Obj)} {s:Shared} {σ:St} {H:Hp} {x:Str} {u:Value} {pos:Pos} {Q:Value->Shared->Prop} (I:Inv X pins σ H s) (hg:Gl X x) (hm:X.mg x=some u) (h:Q u s)
  (hd:(x == ("__debug__" : Str))=false:=by decide):wpAny (model X.prog X.w) X.A (eval (.Name x pos) X.env) Q E s:=
 DL I.ok.kind hg (Calls.loadGlobal_global (by rw [I.ok.glob]; exact I.mod.glob.keeps I.bk) hm h) hd
theorem fV {E:Value->Shared->Prop} {pins:List (Addr×Obj)} {s:Shared} {σ:St} {H:Hp} {x:Str} {u:Value} {pos:Pos} {Q:Value->Shared->Prop} (I:Inv X pins σ H s) (hg:Gl X x) (hm:X.mg x=none) (hv:bootBuiltins x=some u) (h:Q u s)
  (hn:x≠"__name__":=by decide) (hd:(x == ("__debug__" : Str))=false:=by decide):wpAny (model X.prog X.w) X.A (eval (.Name x pos) X.env) Q E s:=by
 obtain ⟨mb,h1,h2⟩:=I.mod.blt
 exact DL I.ok.kind hg (Calls.loadGlobal_builtin (by rw [I.ok.glob]; exact I.mod.glob.keeps I.bk) hm (by rw [I.ok.blt]; exact h1.keeps I.bk) ((h2 x hn).trans hv) h) hd
theorem rJ {x:Str} {v:V} {u:Value} {pos:Pos} (hg:Gl X x) (hm:X.mg x=some u) (r:RelV v u) (hd:(x == ("__debug__" : Str))=false:=by decide):PE X (.Name x pos) (tC v):=
 λ _ _ _ H _ I h=>dL I hg hm ⟨v,H,I,r,h⟩ hd
theorem rK {x:Str} {v:V} {u:Value} {pos:Pos} (hg:Gl X x) (hm:X.mg x=none) (hv:bootBuiltins x=some u) (r:RelV v u) (hn:x≠"__name__":=by decide) (hd:(x == ("__debug__" : Str))=false:=by decide):PE X (.Name x pos) (tC v):=
 λ _ _ _ H _ I h=>fV I hg hm hv ⟨v,H,I,r,h⟩ hn hd
variable {a b:Expr} {ta tb:TE} {pos:Pos}
noncomputable def tB (t:TE):TT:=λ σ H Q=>t σ H λ x H1=>∃ c,x=.bl c/\Q c H1
theorem uS {e:Expr} {t:TE} (h:PE X e t) (he:∀ whole,isTrue e X.env whole=(do let v <-whole; standAt e.pos; holding [v] (truthy v)):=by intro _; rfl):PT X e (tB t):=by
 intro pins s σ H Q I hw
 refine isTrue_plain (thn (h pins s σ H _ I hw) λ v s1 ⟨x,H1,I1,r1,q1⟩=>?_) (he _)
 obtain ⟨d,rfl,q⟩:=q1
 cases r1
 exact wpAny_truthy_bool ⟨H1,I1,q⟩
variable {tA tB':TT} {rest:List Expr}
noncomputable def xa (t u:TT):TT:=λ σ H Q=>t σ H λ c H1=>if c=true then u σ H1 Q else Q false H1
noncomputable def tOr (t u:TT):TT:=λ σ H Q=>t σ H λ c H1=>if c=true then Q true H1 else u σ H1 Q
noncomputable def xb (t:TT):TT:=λ σ H Q=>t σ H λ c H1=>Q (!c) H1
theorem rL (ha:PT X a tA):PW X (.BoolOp .And [a] pos) tA:=by
 intro wh pins s σ H Q I h
 refine isTrue_and (thn (ha pins s σ H Q I h) λ c s1 e=>?_)
 cases c with
 | true=>exact isTrue_and_nil e
 | false=>exact e
theorem uT (ha:PT X a tA):PW X (.BoolOp .Or [a] pos) tA:=by
 intro wh pins s σ H Q I h
 refine isTrue_or (thn (ha pins s σ H Q I h) λ c s1 e=>?_)
 cases c with
 | false=>exact isTrue_or_nil e
 | true=>exact e
theorem uU (ha:PT X a tA) (hb:PW X (.BoolOp .And (b::rest) pos) tB'):PW X (.BoolOp .And (a::b::rest) pos) (xa tA tB'):=by
 intro wh pins s σ H Q I h
 refine isTrue_and (thn (ha pins s σ H _ I h) λ c s1 ⟨H1,I1,q1⟩=>?_)
 cases c with
 | true=>exact hb wh pins s1 σ H1 Q I1 q1
 | false=>exact ⟨H1,I1,q1⟩
theorem xf (ha:PT X a tA) (hb:PW X (.BoolOp .Or (b::rest) pos) tB'):PW X (.BoolOp .Or (a::b::rest) pos) (tOr tA tB'):=by
 intro wh pins s σ H Q I h
 refine isTrue_or (thn (ha pins s σ H _ I h) λ c s1 ⟨H1,I1,q1⟩=>?_)
 cases c with
 | true=>exact ⟨H1,I1,q1⟩
 | false=>exact hb wh pins s1 σ H1 Q I1 q1
theorem uV (ha:PT X a tA):PT X (.UnaryOp .Not a pos) (xb tA):=by
 intro pins s σ H Q I h
 exact isTrue_not (ha pins s σ H (λ c H1=>Q (!c) H1) I h)
noncomputable def tIf (t:TT) (ta tb:TE):TE:=λ σ H Q=>t σ H λ c H1=>if c=true then ta σ H1 Q else tb σ H1 Q
theorem ph {c:Expr} (hc:PT X c tA) (ha:PE X a ta) (hb:PE X b tb):PE X (.IfExp c a b pos) (tIf tA ta tb):=by
 intro pins s σ H Q I h
 refine wpAny_IfExp (thn (hc pins s σ H _ I h) λ d s1 ⟨H1,I1,q1⟩=>?_)
 cases d with
 | true=>exact ha pins s1 σ H1 Q I1 q1
 | false=>exact hb pins s1 σ H1 Q I1 q1
end
noncomputable def SqL (K:Ae) (H:Hp) (a:Addr) (xs:List V):Prop:=
 Rd H a (.lst xs)\/
  ∃ (o:Obj) (its:Array Value) (n:Nat),K.lookup a=some o/\o.cls=.type "list"/\o.dict=none/\o.data=.seq its n/\its.size<=sizeLine/\Vals xs its.toList
noncomputable def SqT (K:Ae) (H:Hp) (a:Addr) (xs:List V):Prop:=
 Rd H a (.tup xs)\/
  ∃ (o:Obj) (its:Array Value) (n:Nat),K.lookup a=some o/\o.cls=.type "tuple"/\o.data=.seq its n/\its.size<=sizeLine/\Vals xs its.toList
noncomputable def zq:Value->Option V
 | .none=>some .non
 | .bool b=>some (.bl b)
 | .int i _=>some (.int i)
 | .str x _=>some (.str x)
 | .bytes b _=>some (.byt b)
 | .float b _=>some (.flt b)
 | .ref a=>some (.ref a)
 | .type n=>some (.ty n)
 | _=>none
theorem RelV.abs {x:V} {u:Value} (r:RelV x u):zq u=some x:=by
 cases x with
 | non=>cases r; rfl
 | bl _=>cases r; rfl
 | int _=>obtain ⟨t,rfl⟩:=r; rfl
 | str _=>obtain ⟨t,rfl⟩:=r; rfl
 | byt _=>obtain ⟨t,rfl⟩:=r; rfl
 | flt _=>obtain ⟨t,rfl⟩:=r; rfl
 | ref _=>cases r; rfl
 | ty _=>cases r; rfl
theorem RelV.inj {x y:V} {u:Value} (r:RelV x u) (q:RelV y u):x=y:=Ba (r.abs.symm.trans q.abs)
theorem Vals.inj:∀ {xs ys:List V} {us:List Value},Vals xs us->Vals ys us->xs=ys
 | _,_,_,.nil,.nil=>rfl
 | _,_,_,.cons r t,.cons r' t'=>by rw [r.inj r',Vals.inj t t']
section
variable {X:Cx} {pins:List (Addr×Obj)} {σ:St} {H:Hp} {s:Shared} {a:Addr} {xs ys:List V}
theorem SqL.of {K:Ae} (h:H a=some (.lst xs)):SqL K H a xs:=.inl (.inl h)
theorem SqT.of {K:Ae} (h:H a=some (.tup xs)):SqT K H a xs:=.inl (.inl h)
theorem Inv.list (I:Inv X pins σ H s) (h:SqL X.K H a xs):∃ its:List Value,Vals xs its/\PlainL s.heap a its.toArray/\xs.length<=sizeLine:=by
 rcases h with h | ⟨o,its,n,hk,hc,hd,hs,hz,r⟩
 ·obtain ⟨z,its,n,r,e⟩:=h.ok I.hok
  exact ⟨its,r,⟨_,n,e,rfl,rfl,rfl⟩,z⟩
 ·refine ⟨its.toList,r,⟨o,n,I.kIn a o hk,hc,hd,by simpa using hs⟩,?_⟩
  have e:=r.length
  simp only [Bs] at e
  lia
theorem Inv.tuple (I:Inv X pins σ H s) (h:SqT X.K H a xs):∃ its:List Value,Vals xs its/\IsTup s.heap a its.toArray/\xs.length<=sizeLine:=by
 rcases h with h | ⟨o,its,n,hk,hc,hs,hz,r⟩
 ·obtain ⟨z,its,r,p⟩:=h.ok I.hok
  exact ⟨its,r,p,z⟩
 ·refine ⟨its.toList,r,⟨o,I.kIn a o hk,hc,n,by simpa using hs⟩,?_⟩
  have e:=r.length
  simp only [Bs] at e
  lia
theorem Inv.list_inj (I:Inv X pins σ H s) (h:SqL X.K H a xs) (h':SqL X.K H a ys):xs=ys:=by
 obtain ⟨its,r,⟨o,n,e,_,_,d⟩,_⟩:=I.list h
 obtain ⟨its',r',⟨o',n',e',_,_,d'⟩,_⟩:=I.list h'
 rw [e] at e'; cases e'
 rw [d] at d'
 injection d' with d1 _
 have:its=its':=by simpa using congrArg GI d1
 subst this
 exact r.inj r'
theorem Inv.tuple_inj (I:Inv X pins σ H s) (h:SqT X.K H a xs) (h':SqT X.K H a ys):xs=ys:=by
 obtain ⟨its,r,⟨o,e,_,n,d⟩,_⟩:=I.tuple h
 obtain ⟨its',r',⟨o',e',_,n',d'⟩,_⟩:=I.tuple h'
 rw [e] at e'; cases e'
 rw [d] at d'
 injection d' with d1 _
 have:its=its':=by simpa using congrArg GI d1
 subst this
 exact r.inj r'
end
noncomputable abbrev Cx.wish (X:Cx) (E:Value->Shared->Prop):Cx:={ X with xe:=E }
noncomputable abbrev Cx.nox (X:Cx):Cx:=X.wish λ _ _=>False
theorem Cx.Ok.wish {X:Cx} (ok:X.Ok) (E:Value->Shared->Prop):(X.wish E).Ok:=
 ⟨ok.mod,ok.kind,ok.glob,ok.blt,ok.above,ok.inj,ok.has,ok.cab,ok.hd,ok.frames,ok.stk,ok.exf,ok.bs,ok.bsz,ok.noex,ok.exfs,ok.funs,ok.frf⟩
theorem Cx.Ok.unwish {X:Cx} {E:Value->Shared->Prop} (ok:(X.wish E).Ok):X.Ok:=
 ⟨ok.mod,ok.kind,ok.glob,ok.blt,ok.above,ok.inj,ok.has,ok.cab,ok.hd,ok.frames,ok.stk,ok.exf,ok.bs,ok.bsz,ok.noex,ok.exfs,ok.funs,ok.frf⟩
section
variable {X:Cx} {pins:List (Addr×Obj)} {σ:St} {H:Hp} {s:Shared} {E:Value->Shared->Prop}
theorem Inv.wish (I:Inv X pins σ H s) (E:Value->Shared->Prop):Inv (X.wish E) pins σ H s:=⟨I.ok.wish E,I.os,I.bare,I.base,I.loc,I.cell,I.free,I.freeC,I.pin,I.hok,I.len⟩
theorem Inv.unwish (I:Inv (X.wish E) pins σ H s):Inv X pins σ H s:=⟨I.ok.unwish,I.os,I.bare,I.base,I.loc,I.cell,I.free,I.freeC,I.pin,I.hok,I.len⟩
theorem SP.unwish {D:Ends} {f:Flow} {s':Shared} (h:SP (X.wish E) pins D f s'):SP X pins D f s':=by
 cases f with
 | next=>obtain ⟨σ',H',I,q⟩:=h; exact ⟨σ',H',I.unwish,q⟩
 | brk=>obtain ⟨σ',H',I,q⟩:=h; exact ⟨σ',H',I.unwish,q⟩
 | cont=>obtain ⟨σ',H',I,q⟩:=h; exact ⟨σ',H',I.unwish,q⟩
 | ret u=>obtain ⟨v,σ',H',I,r,q⟩:=h; exact ⟨v,σ',H',I.unwish,r,q⟩
theorem PSs.nox {st:List Stmt} {t:TS} (h:PSs X.nox st t):PSs X st t:=λ pins s σ H D I hw=>
 wpAny_mono (h pins s σ H D (I.wish _) hw) (λ _ _ q=>q.unwish) λ _ _ z=>A7 z
end
section
variable {X:Cx} {st:Stmt} {rest:List Stmt} {t u:TS} {e:Expr} {te:TE} {pos:Pos}
noncomputable def rM:TS:=λ D σ H=>D.nx σ H
noncomputable def xg (t u:TS):TS:=λ D σ H=>t { D with nx:=u D } σ H
theorem rN:PSs X [] rM:=λ _ _ σ H _ I h=>wpAny_execs_nil ⟨σ,H,I,h⟩
theorem pi (h1:PS X st t) (h2:PSs X rest u):PSs X (st::rest) (xg t u):=by
 intro pins s σ H D I h
 refine wpAny_execs_cons (thn (h1 pins s σ H { D with nx:=u D } I h) λ f s1 q=>?_)
 cases f with
 | next=>
  obtain ⟨σ',H',I',q⟩:=q
  exact h2 pins s1 σ' H' D I' q
 | ret v=>exact q
 | brk=>exact q
 | cont=>exact q
theorem rO (h1:PS X st t):PSs X [st] t:=by
 intro pins s σ H D I h
 refine wpAny_execs_cons (thn (h1 pins s σ H D I h) λ f s1 q=>?_)
 cases f with
 | next=>exact wpAny_execs_nil q
 | ret v=>exact q
 | brk=>exact q
 | cont=>exact q
theorem Inv.quiet {pins:List (Addr×Obj)} {σ:St} {H:Hp} {s:Shared} (I:Inv X pins σ H s):interactive X.env=false:=by simp [interactive,I.ok.kind]
noncomputable def rP (te:TE):TS:=λ D σ H=>te σ H λ _ H1=>D.nx σ H1
theorem rQ (he:PE X e te) (hs:swapsWith e none pos.line X.env=pure false:=by rfl):PS X (.Expr e pos) (rP te):=by
 intro pins s σ H D I h
 exact wpAny_Expr_any (thn (he pins s σ H _ I h) λ v s1 ⟨x,H1,I1,r1,q1⟩=>⟨σ,H1,I1,q1⟩) I.quiet hs
noncomputable def xh (te:TE):TS:=λ D σ H=>te σ H D.rt
theorem uW (he:PE X e te):PS X (.Return (some e) pos) (xh te):=by
 intro pins s σ H D I h
 exact wpAny_Return_some (thn (he pins s σ H _ I h) λ v s1 ⟨x,H1,I1,r1,q1⟩=>⟨x,σ,H1,I1,r1,q1⟩)
noncomputable def xi (c:TT) (t u:TS):TS:=λ D σ H=>c σ H λ b H1=>if b=true then t D σ H1 else u D σ H1
theorem xj {c:Expr} {a b:List Stmt} {tc:TT} (hc:PT X c tc) (ha:PSs X a t) (hb:PSs X b u):PS X (.If c a b pos) (xi tc t u):=by
 intro pins s σ H D I h
 refine wpAny_If (thn (hc pins s σ H _ I h) λ d s1 ⟨H1,I1,q1⟩=>?_)
 cases d with
 | true=>exact ha pins s1 σ H1 D I1 q1
 | false=>exact hb pins s1 σ H1 D I1 q1
noncomputable def qH:TS:=λ _ _ _=>False
theorem pj:PS X st qH:=λ _ _ _ _ _ _ h=>h.elim
end
noncomputable abbrev TG:=V->St->Hp->(St->Hp->Prop)->Prop
noncomputable abbrev TGs:=List V->St->Hp->(St->Hp->Prop)->Prop
noncomputable def PG (X:Cx) (target:Expr) (t:TG):Prop:=
 ∀ (pins:List (Addr×Obj)) (s:Shared) (σ:St) (H:Hp) (v:V) (u:Value) (Q:St->Hp->Prop),Inv X pins σ H s->RelV v u->t v σ H Q->
  wpAny (model X.prog X.w) X.A (assign target X.env u) (λ _ s'=>∃ σ' H',Inv X pins σ' H' s'/\Q σ' H') X.xe s
noncomputable def PGs (X:Cx) (ts:List Expr) (t:TGs):Prop:=
 ∀ (pins:List (Addr×Obj)) (s:Shared) (σ:St) (H:Hp) (vs:List V) (us:List Value) (Q:St->Hp->Prop),Inv X pins σ H s->Vals vs us->t vs σ H Q->
  wpAny (model X.prog X.w) X.A (assignInOrder ((assignEach ts X.env).map (·.2)) us) (λ _ s'=>∃ σ' H',Inv X pins σ' H' s'/\Q σ' H') X.xe s
noncomputable abbrev rR:=V->V->V->Hp->(Hp->Prop)->Prop
noncomputable def xk (X:Cx) (t:rR):Prop:=
 ∀ (pins:List (Addr×Obj)) (s:Shared) (σ:St) (H:Hp) (o i v:V) (ov iv u:Value) (Q:Hp->Prop),Inv X pins σ H s->RelV o ov->RelV i iv->RelV v u->t o i v H Q->
  wpAny (model X.prog X.w) X.A (setItem ov iv u) (λ _ s'=>∃ H',Inv X pins σ H' s'/\Q H') X.xe s
noncomputable abbrev TIp:=V->V->Hp->VK->Prop
noncomputable def PIp (X:Cx) (op:Operator) (t:TIp):Prop:=
 ∀ (pins:List (Addr×Obj)) (s:Shared) (σ:St) (H:Hp) (x y:V) (v u:Value) (Q:VK),Inv X pins σ H s->RelV x v->RelV y u->t x y H Q->
  wpAny (model X.prog X.w) X.A (inplaceOp op v u) (EP X pins σ Q) X.xe s
section
variable {X:Cx} {pos:Pos}
noncomputable def il (i:Nat):TG:=λ v σ H Q=>Q (σ.set i (some v)) H
theorem rS {i:Nat} {x:Str} (hN:X.N.Nodup) (hi:X.N[i]? = some x) (hx:Loc X.env.scope x) (hf:X.fn x=true\/X.env.scope.names.lookup x=some .local:=by first | exact .inl rfl | exact .inr rfl | assumption):PG X (.Name x pos) (il i):=by
 intro pins s σ H v u Q I r h
 exact wpAny_assign_Name (di I hN hi hx r (λ s' I'=>⟨_,H,I',h⟩) hf)
noncomputable def xm:TGs:=λ vs σ H Q=>vs=[]/\Q σ H
noncomputable def pk (t:TG) (u:TGs):TGs:=λ vs σ H Q=>∃ v r,vs=v::r/\t v σ H λ σ' H'=>u r σ' H' Q
theorem rT:PGs X [] xm:=by
 intro pins s σ H vs us Q I r h
 obtain ⟨e,h⟩:=h
 subst e
 cases r
 exact assignInOrder_nil ⟨σ,H,I,h⟩
theorem pp {e:Expr} {es:List Expr} {t:TG} {u:TGs} (h1:PG X e t) (h2:PGs X es u)
  (hs:(assignEach (e::es) X.env).map (·.2)=assign e X.env::(assignEach es X.env).map (·.2):=by rfl):PGs X (e::es) (pk t u):=by
 intro pins s σ H vs us Q I r h
 obtain ⟨v,vr,e1,h⟩:=h
 subst e1
 cases r with
 | cons r rr=>
  rw [hs]
  refine assignInOrder_cons (thn (h1 pins s σ H _ _ _ I r h) λ _ s1 ⟨σ1,H1,I1,q1⟩=>?_)
  exact h2 pins s1 σ1 H1 _ _ Q I1 rr q1
noncomputable def xn (K:Ae) (n:Nat) (t:TGs):TG:=λ v σ H Q=>∃ a xs,v=.ref a/\SqT K H a xs/\xs.length=n/\t xs σ H Q
theorem uX {es:List Expr} {k:Nat} {t:TGs} {n:Nat} (hc:X.calm=true) (h:PGs X es t)
  (hn:(assignEach es X.env).length=n:=by rfl) (hst:(assignEach es X.env).findIdx? (·.1)=none:=by rfl):PG X (.Tuple es k pos) (xn X.K n t):=by
 intro pins s σ H v u Q I r hw
 obtain ⟨a,xs,e1,hq,hl,hw⟩:=hw
 subst e1
 cases r
 obtain ⟨its,rv,ht,hz⟩:=I.tuple hq
 refine assign_Tuple_tuple (I.ok.hd hc) ht (by simp [hn,<-hl,rv.length]) hst λ h' hx=>?_
 have I1:Inv X pins σ H { s with heap:=h' }:=I.kept (t':=s.toks) λ b o e=>hx b o (AB (Am e)) e
 exact h pins _ σ H xs _ Q I1 (by simpa using rv) hw
noncomputable def wE (to ti:TE) (t:rR):TG:=λ v σ H Q=>to σ H λ o H1=>ti σ H1 λ i H2=>t o i v H2 λ H3=>Q σ H3
theorem qI {o i:Expr} {to ti:TE} {t:rR} (ho:PE X o to) (hi:PE X i ti) (hs:xk X t)
  (ha:∀ v,assign (.Subscript o i pos) X.env v=(do
   let ov <-holding [v] (eval o X.env)
   let iv <-holding [v,ov] (eval i X.env)
   standAt pos
   holding [v,ov,iv] (setItem ov iv v)
   release [v,ov,iv] []):=by intro _; rfl):PG X (.Subscript o i pos) (wE to ti t):=by
 intro pins s σ H v u Q I r h
 rw [ha]
 refine wpAny_bind (wpAny_holding (thn (ho pins s σ H _ I h) λ ov s1 ⟨x,H1,I1,r1,q1⟩=>?_))
 refine wpAny_bind (wpAny_holding (thn (hi pins s1 σ H1 _ I1 q1) λ iv s2 ⟨y,H2,I2,r2,q2⟩=>?_))
 refine wpAny_bind (wpAny_standAt (wpAny_bind (wpAny_holding (thn (hs pins s2 σ H2 x y v ov iv u _ I2 r1 r2 r q2) λ _ s3 ⟨H3,I3,q3⟩=>?_))))
 exact wpAny_release ⟨σ,H3,I3,q3⟩
noncomputable def qJ (te:TE) (g:TG):TS:=λ D σ H=>te σ H λ x H1=>g x σ H1 D.nx
theorem qK {tg e:Expr} {te:TE} {g:TG} (he:PE X e te) (hg:PG X tg g) (hs:swapsWithSole [tg] e pos.line X.env=pure false:=by rfl) (hw:swappedStores [tg] e X.env=pure none:=by rfl)
  (h1:(assignEach [tg] X.env).map (·.2)=[assign tg X.env]:=by rfl):PS X (.Assign [tg] e pos) (qJ te g):=by
 intro pins s σ H D I h
 refine wpAny_Assign_stores (thn (he pins s σ H _ I h) λ v s1 ⟨x,H1,I1,r1,q1⟩=>?_) hs hw
 rw [h1]
 exact thn (hg pins s1 σ H1 x v _ I1 r1 q1) λ _ s2 q=>q
theorem uY {i:Nat} {x:Str} {e:Expr} {te:TE} {pos':Pos} (hN:X.N.Nodup) (hi:X.N[i]? = some x) (hx:Loc X.env.scope x) (he:PE X e te) (hs:swapsWith e (some (.Name x pos')) pos.line X.env=pure false:=by rfl) (hf:X.fn x=true\/X.env.scope.names.lookup x=some .local:=by first | exact .inl rfl | exact .inr rfl | assumption) :
  PS X (.Assign [.Name x pos'] e pos) (qJ te (il i)):=by
 intro pins s σ H D I h
 refine wpAny_Assign_Name (thn (he pins s σ H _ I h) λ v s1 ⟨y,H1,I1,r1,q1⟩=>?_) hs
 exact di I1 hN hi hx r1 (λ s2 I2=>⟨_,H1,I2,q1⟩) hf
noncomputable def xo (i j:Nat) (ta:TA):TS:=λ D σ H=>ta σ H λ vs H1=>∃ v w,vs=[v,w]/\D.nx ((σ.set i (some v)).set j (some w)) H1
theorem uZ {i j:Nat} {x y:Str} {a b:Expr} {ta:TA} {px py pt:Pos} {kt k2 pt2} (hc:X.calm=true) (hN:X.N.Nodup) (hi:X.N[i]? = some x) (hj:X.N[j]? = some y) (hij:i≠j)
  (hx:X.env.scope.names.lookup x=some .local) (hy:X.env.scope.names.lookup y=some .local) (ha:PA X [a,b] ta)
  (hw:swappedStores [.Tuple [.Name x px,.Name y py] kt pt] (.Tuple [a,b] k2 pt2) X.env=pure (some [x,y]))
  (hs:swapsWithSole [.Tuple [.Name x px,.Name y py] kt pt] (.Tuple [a,b] k2 pt2) pos.line X.env=pure false:=by rfl) :
  PS X (.Assign [.Tuple [.Name x px,.Name y py] kt pt] (.Tuple [a,b] k2 pt2) pos) (xo i j ta):=by
 intro pins s σ H D I h
 rw [exec_Assign_arm]
 refine wpAny_bind (wpAny_standAt ?_)
 rw [hs]
 refine wpAny_bind (wpAny_pure ?_)
 rw [if_neg (by decide)]
 refine wpAny_bind (Tuple_ (thn (ha _ pins s σ H _ I h) λ us s1 ⟨vs,H1,I1,r1,q1⟩=>?_))
 obtain ⟨v,w,e1,q1⟩:=q1
 subst e1
 obtain ⟨u1,u2,rfl,rv,rw'⟩:∃ u1 u2,us=[u1,u2]/\RelV v u1/\RelV w u2:=by
  cases r1 with
  | cons p q=>
   cases q with
   | cons p' q'=>
    cases q'
    exact ⟨_,_,rfl,p,p'⟩
 refine wpAny_newObj_type ?_ (by show 2<=sizeLine; decide)
 have I2:Inv X pins σ H1 { s1 with heap:=s1.heap.push { cls:=.type "tuple",data:=.seq [u1,u2].toArray } }:=I1.kept (t':=s1.toks) λ b o e=>Aj _ e
 rw [hw]
 refine wpAny_bind (wpAny_pure ?_)
 show wpAny (model X.prog X.w) X.A (do rule "assign.swapped-stores"; let items <-unpackItems (.ref s1.heap.objs.size) 2 none; assignInOrder [λ v=>bindName X.env y v,λ v=>bindName X.env x v] items.reverse; pure Ho) _ _ _
 refine wpAny_bind (wpAny_rule (wpAny_bind (unpackItems_tuple (items:=#[u1,u2]) (I.ok.hd hc) (E1 s1.heap _) λ h' hx'=>?_)))
 have I3:=I2.kept (h':=h') (t':=s1.toks) λ b o e=>hx' b o (AB (Am e)) e
 show wpAny _ _ (assignInOrder [λ v=>bindName X.env y v,λ v=>bindName X.env x v] [u2,u1] >>= λ _=>pure Ho) _ _ _
 refine wpAny_bind (assignInOrder_cons (wpAny_bindName (di I3 hN hj (.inl hy) rw' (λ s2 I4=>?_) (.inr hy))))
 refine assignInOrder_cons (wpAny_bindName (di I4 hN hi (.inl hx) rv (λ s3 I5=>assignInOrder_nil (wpAny_pure ?_)) (.inr hx)))
 rw [List.set_comm _ _ (AV hij)] at I5
 exact ⟨_,H1,I5,q1⟩
noncomputable def zr (i:Nat) (te:TE) (ti:TIp):TS:=λ D σ H=>∃ x,σ[i]? = some (some x)/\te σ H λ y H1=>ti x y H1 λ z H2=>D.nx (σ.set i (some z)) H2
noncomputable def pq (to ti te:TE) (tget:V->V->Hp->VK->Prop) (tip:TIp) (tset:rR):TS:=λ D σ H=>to σ H λ o H1=>ti σ H1 λ i H2=>tget o i H2 λ x H3=>te σ H3 λ y H4=>tip x y H4 λ z H5=>tset o i z H5 λ H6=>D.nx σ H6
noncomputable def xp (X:Cx) (t:V->V->Hp->VK->Prop):Prop:=
 ∀ (pins:List (Addr×Obj)) (s:Shared) (σ:St) (H:Hp) (o i:V) (ov iv:Value) (Q:VK),Inv X pins σ H s->RelV o ov->RelV i iv->t o i H Q->
  wpAny (model X.prog X.w) X.A (getItem ov iv) (EP X pins σ Q) X.xe s
theorem mn {o i e:Expr} {to ti te:TE} {tget:V->V->Hp->VK->Prop} {tip:TIp} {tset:rR} {op:Operator} {tpos:Pos} (ho:PE X o to) (hi:PE X i ti) (hg:xp X tget) (he:PE X e te) (hp:PIp X op tip) (hs:xk X tset)
  (ha:∀ ov iv new,augStore i ov iv new=(do holding [new,ov,iv] (setItem ov iv new); release [new,ov,iv] []; pure .next):=by intros; rfl):PS X (.AugAssign (.Subscript o i tpos) op e pos) (pq to ti te tget tip tset):=by
 intro pins s σ H D I h
 refine wpAny_AugAssign_SubscriptAny (thn (ho pins s σ H _ I h) λ ov s1 ⟨x1,H1,I1,r1,q1⟩=>?_) ha
 refine thn (hi pins s1 σ H1 _ I1 q1) λ iv s2 ⟨x2,H2,I2,r2,q2⟩=>?_
 refine thn (hg pins s2 σ H2 x1 x2 ov iv _ I2 r1 r2 q2) λ old s3 ⟨x3,H3,I3,r3,q3⟩=>?_
 refine thn (he pins s3 σ H3 _ I3 q3) λ v s4 ⟨x4,H4,I4,r4,q4⟩=>?_
 refine thn (hp pins s4 σ H4 x3 x4 old v _ I4 r3 r4 q4) λ new s5 ⟨x5,H5,I5,r5,q5⟩=>?_
 exact thn (hs pins s5 σ H5 x1 x2 x5 ov iv new _ I5 r1 r2 r5 q5) λ _ s6 ⟨H6,I6,q6⟩=>⟨σ,H6,I6,q6⟩
noncomputable def ipI (f:Int->Int->Int):TIp:=λ x y H Q=>∃ i j,x=.int i/\y=.int j/\Q (.int (f i j)) H
theorem qL:PIp X .Add (ipI λ i j=>i+j):=by
 intro pins s σ H x y v u Q I r1 r2 h
 obtain ⟨i,j,e1,e2,q⟩:=h
 subst e1; subst e2
 obtain ⟨t,rfl⟩:=r1
 obtain ⟨t',rfl⟩:=r2
 exact iadd_int ⟨.int _,H,I.tok _,⟨_,rfl⟩,q⟩
end
section
variable {X:Cx} {pos:Pos}
noncomputable def qM (c:TT) (tb:TS):TS:=λ D σ H=>∃ W:Nat->St->Hp->Prop,(∃ m,W m σ H)/\∀ m σ H,W m σ H->
 c σ H λ b H1=>if b=true then ∃ N:St->Hp->Prop,(∀ σ' H',N σ' H'->∃ m',m'<m/\W m' σ' H')/\tb { D with nx:=N,ct:=N,bk:=D.nx } σ H1 else D.nx σ H1
theorem pv {c:Expr} {body:List Stmt} {tc:TT} {tb:TS} (hp:PassesOwn (model X.prog X.w) X.A X.env X.xe) (hc:PT X c tc) (hb:PSs X body tb):PS X (.While c body [] pos) (qM tc tb):=by
 intro pins s σ H D I h
 obtain ⟨W,⟨m0,w0⟩,turn⟩:=h
 refine wpAny_While (codeAny_whileLoop (λ n s'=>∃ σ' H',Inv X pins σ' H' s'/\W n σ' H') ?_ m0 ⟨σ,H,I,w0⟩)
 rintro n s1 ⟨σ1,H1,I1,w1⟩
 refine wpAny_passesOwn hp (thn (hc pins s1 σ1 H1 _ I1 (turn n σ1 H1 w1)) λ b s2 ⟨H2,I2,q2⟩=>?_)
 cases b with
 | true=>
  obtain ⟨N,hN,q2⟩:=q2
  rw [if_pos rfl]
  refine wpAny_passesOwn hp (thn (hb pins s2 σ1 H2 _ I2 q2) λ f s3 q3=>?_)
  cases f with
  | next=>
   obtain ⟨σ3,H3,I3,n3⟩:=q3
   obtain ⟨m',hm,w3⟩:=hN σ3 H3 n3
   exact ⟨m',hm,σ3,H3,I3,w3⟩
  | cont=>
   obtain ⟨σ3,H3,I3,n3⟩:=q3
   obtain ⟨m',hm,w3⟩:=hN σ3 H3 n3
   exact ⟨m',hm,σ3,H3,I3,w3⟩
  | brk=>exact q3
  | ret v=>exact q3
 | false=>
  rw [if_neg Ao]
  exact wpAny_execs_nil ⟨σ1,H2,I2,q2⟩
end
structure It where
 go:Nat->Hp->Prop
 yld:Nat->Hp->V->Hp->Prop
 stop:Nat->Hp->Prop
noncomputable def mq (X:Cx) (pins:List (Addr×Obj)) (H:Hp) (b:Addr):Prop:=
 H b=none/\b≠X.env.locals/\b∉X.fs/\(b∈X.ex\/X.s₀.heap.objs.size<=b)/\(∀ x c,X.env.cells.lookup x=some c->c≠b)/\∀ p∈X.pn++pins,p.1≠b
theorem Inv.fpOk {X:Cx} {pins:List (Addr×Obj)} {σ:St} {H H':Hp} {s:Shared} {b:Addr} (I:Inv X pins σ H s) (hb:s.heap.objs.size<=b) (hn:H' b=none):mq X pins H' b:=by
 refine ⟨hn,Cn (AA I.lt hb),I.nofs hb,.inr (Bg I.sz hb),λ x c e z=>?_,λ p hp z=>?_⟩
 ·obtain ⟨v,q⟩:=I.cell x c e
  exact absurd (AA q.lt (by rw [z]; exact hb)) (BC _)
 ·exact absurd (AA (Am (I.pin p hp).1) (by rw [z]; exact hb)) (BC _)
structure Turn (P:Program) (w:World) (K:Ae) (tg:Expr) (J:It) (fp:List Addr) (it:Addr) (tn:Nat->Heap->Prop):Prop where
 mem:it∈fp
 obj:∀ i h,tn i h->∀ b∈fp,∃ o,h.get? b=some o/\∀ v,o.data≠.cell v
 keep:∀ i h h',tn i h->(∀ b∈fp,∀ o,h.get? b=some o->h'.get? b=some o)->tn i h'
 item:∀ (X:Cx),X.prog=P->X.w=w->X.K=K->X.calm=true->∀ (i:Nat) (pins:List (Addr×Obj)) (s:Shared) (σ:St) (H:Hp) (E:Value->Shared->Prop),Inv X pins σ H s->(∀ b∈fp,mq X pins H b)->tn i s.heap->J.go i H->
  wpAny (model P w) X.A (pyNext (.ref it)) (λ r s1=>∃ u,r=some u/\
   wpAny (model P w) X.A (letOwnedTupleGo tg (.ref it) u) (λ _ s2=>∃ x H',Inv X pins σ H' s2/\RelV x u/\J.yld i H x H'/\tn (i+1) s2.heap/\∀ b∈fp,H' b=none) E s1) E s
 done:∀ (X:Cx),X.prog=P->X.w=w->X.K=K->X.calm=true->∀ (i:Nat) (pins:List (Addr×Obj)) (s:Shared) (σ:St) (H:Hp) (E:Value->Shared->Prop),Inv X pins σ H s->(∀ b∈fp,mq X pins H b)->tn i s.heap->J.stop i H->
  wpAny (model P w) X.A (pyNext (.ref it)) (λ r s1=>r=none/\Inv X pins σ H s1) E s
 self:∀ (A:Around) (i:Nat) (s:Shared) (Q:Value->Shared->Prop) (E:Value->Shared->Prop),tn i s.heap->Q (.ref it) s->wpAny (model P w) A (pyIter (.ref it)) Q E s
noncomputable abbrev TI:=St->Hp->(It->Hp->Prop)->Prop
noncomputable def PIE (X:Cx) (pins:List (Addr×Obj)) (σ:St) (tg:Expr) (R:It->Hp->Prop) (itv:Value) (s2:Shared):Prop:=
 ∃ (it:Addr) (fp:List Addr) (tn:Nat->Heap->Prop) (J:It) (H':Hp),itv=.ref it/\Inv X pins σ H' s2/\Turn X.prog X.w X.K tg J fp it tn/\tn 0 s2.heap/\(∀ b∈fp,mq X pins H' b)/\R J H'
noncomputable def PI (X:Cx) (tg iter:Expr) (wi:TI):Prop:=
 ∀ (pins:List (Addr×Obj)) (s:Shared) (σ:St) (H:Hp) (R:It->Hp->Prop),Inv X pins σ H s->wi σ H R->
  wpAny (model X.prog X.w) X.A (eval iter X.env) (λ v s1=>wpAny (model X.prog X.w) X.A (pyIter v) (PIE X pins σ tg R) X.xe s1) X.xe s
theorem rV {M:Model} {A:Around} {E:Value->Shared->Prop} {s:Shared} {tg:Expr} {it:Addr} {u:Value} {o:Obj} {n:String} {vs:Array Value} {Q:Unit->Shared->Prop} (ho:s.heap.get? it=some o) (hc:o.cls=.type n) (hd:o.data=.fields vs)
    (hn:["enumerate","zip","dict_itemiterator","dict_reverseitemiterator","odict_iterator","itertools.zip_longest","itertools.pairwise"].contains n=false) (hQ:Q () s):wpAny M A (letOwnedTupleGo tg (.ref it) u) Q E s:=by
  unfold letOwnedTupleGo
  cases tg<;>first
    | exact wpAny_pure hQ
    | (cases u<;>first
        | exact wpAny_pure hQ
        | (refine wpAny_bind (wpAny_load ho ?_)
           rw [hc,hd]
           show wpAny M A (if (["enumerate","zip","dict_itemiterator","dict_reverseitemiterator","odict_iterator","itertools.zip_longest","itertools.pairwise"].contains n && vs[0]? == some (rawInt _))=true then _ else _) Q E s
           rw [if_neg (by intro h; rw [hn,Bool.false_and] at h; cases h)]
           exact wpAny_pure hQ))
noncomputable def Itl (K:Ae) (a:Addr):It:=
 ⟨λ i H=>∃ xs x,SqL K H a xs/\xs[i]? = some x,λ i H x H'=>H'=H/\∀ xs,SqL K H a xs->xs[i]? = some x,λ i H=>∃ xs,SqL K H a xs/\xs.length<=i⟩
noncomputable def Itt (K:Ae) (a:Addr):It:=
 ⟨λ i H=>∃ xs x,SqT K H a xs/\xs[i]? = some x,λ i H x H'=>H'=H/\∀ xs,SqT K H a xs->xs[i]? = some x,λ i H=>∃ xs,SqT K H a xs/\xs.length<=i⟩
noncomputable def Itr (lo:Int) (n:Nat):It:=⟨λ i _=>i<n,λ i H x H'=>H'=H/\x=.int (lo+i),λ i _=>n<=i⟩
theorem mt {P:Program} {w:World} {K:Ae} {tg:Expr} (a it:Addr):Turn P w K tg (Itl K a) [it] it (λ i h=>h.IsListIter it a i) where
 mem:=by simp
 obj:=λ i h st b hb=>by
  have e:b=it:=by simpa using hb
  subst e
  obtain ⟨o,e,c,d⟩:=st
  exact ⟨o,e,λ v z=>by rw [d] at z; cases z⟩
 keep:=λ i h h' st k=>st.at λ o e=>k it (by simp) o e
 item:=by
  intro X hP hw hK hc i pins s σ H E I hf st hg
  subst hP hw hK
  obtain ⟨xs,x,hq,hx⟩:=hg
  obtain ⟨its,rv,p,hz⟩:=I.list hq
  obtain ⟨u,hu,ru⟩:=rv.get hx
  obtain ⟨f0,f1,f2,f3,f4,f5⟩:=hf it (by simp)
  refine wpAny_pyNext_list_item st p.isList (x:=u) (by simpa using hu) λ h' st' sb=>?_
  have I1:Inv X pins σ H { s with heap:=h' }:=I.turned (t':=s.toks) (λ b o hb e=>(sb.2 b hb).trans e) f0 f1 f3 f4 f5
  obtain ⟨o,e,c,d⟩:=id st'
  exact ⟨u,rfl,rV (s:={ s with heap:=h' }) e c d (by decide) ⟨x,H,I1,ru,⟨rfl,λ ys hy=>by rw [I.list_inj hy hq]; exact hx⟩,st',λ b hb=>(hf b hb).1⟩⟩
 done:=by
  intro X hP hw hK hc i pins s σ H E I hf st hg
  subst hP hw hK
  obtain ⟨xs,hq,hx⟩:=hg
  obtain ⟨its,rv,p,hz⟩:=I.list hq
  obtain ⟨f0,f1,f2,f3,f4,f5⟩:=hf it (by simp)
  have hl:=rv.length
  exact wpAny_pyNext_list_end (I.ok.hd hc) st p.isList (by simp; lia) λ h' eb=>⟨rfl,I.turned (t':=s.toks) (λ b o hb e=>eb b o hb e) f0 f1 f3 f4 f5⟩
 self:=λ _ _ _ _ _ st h=>wpAny_pyIter_listiter st h
theorem lw {P:Program} {w:World} {K:Ae} {tg:Expr} (a it:Addr):Turn P w K tg (Itt K a) [it] it (λ i h=>h.IsTupleIter it a i) where
 mem:=by simp
 obj:=λ i h st b hb=>by
  have e:b=it:=by simpa using hb
  subst e
  obtain ⟨o,e,c,d⟩:=st
  exact ⟨o,e,λ v z=>by rw [d] at z; cases z⟩
 keep:=λ i h h' st k=>st.at λ o e=>k it (by simp) o e
 item:=by
  intro X hP hw hK hc i pins s σ H E I hf st hg
  subst hP hw hK
  obtain ⟨xs,x,hq,hx⟩:=hg
  obtain ⟨its,rv,p,hz⟩:=I.tuple hq
  obtain ⟨u,hu,ru⟩:=rv.get hx
  obtain ⟨f0,f1,f2,f3,f4,f5⟩:=hf it (by simp)
  refine wpAny_pyNext_tuple_item st (show s.heap.IsTuple a its.toArray from p) (x:=u) (by simpa using hu) λ h' st' sb=>?_
  have I1:Inv X pins σ H { s with heap:=h' }:=I.turned (t':=s.toks) (λ b o hb e=>(sb.2 b hb).trans e) f0 f1 f3 f4 f5
  obtain ⟨o,e,c,d⟩:=id st'
  exact ⟨u,rfl,rV (s:={ s with heap:=h' }) e c d (by decide) ⟨x,H,I1,ru,⟨rfl,λ ys hy=>by rw [I.tuple_inj hy hq]; exact hx⟩,st',λ b hb=>(hf b hb).1⟩⟩
 done:=by
  intro X hP hw hK hc i pins s σ H E I hf st hg
  subst hP hw hK
  obtain ⟨xs,hq,hx⟩:=hg
  obtain ⟨its,rv,p,hz⟩:=I.tuple hq
  obtain ⟨f0,f1,f2,f3,f4,f5⟩:=hf it (by simp)
  have hl:=rv.length
  exact wpAny_pyNext_tuple_end (I.ok.hd hc) st (show s.heap.IsTuple a its.toArray from p) (by simp; lia) λ h' eb=>⟨rfl,I.turned (t':=s.toks) (λ b o hb e=>eb b o hb e) f0 f1 f3 f4 f5⟩
 self:=λ _ _ _ _ _ st h=>wpAny_pyIter_tupleiter st h
theorem lx {P:Program} {w:World} {K:Ae} {tg:Expr} (it:Addr) (lo:Int) (n:Nat):Turn P w K tg (Itr lo n) [it] it (λ i h=>IsRangeIter h it (lo+(i:Nat)*1) ((n:Int) - (i:Nat)) 1) where
 mem:=by simp
 obj:=λ i h st b hb=>by
  have e:b=it:=by simpa using hb
  subst e
  exact ⟨_,st,λ v z=>by
   have z':Data.fields _=Data.cell v:=z
   cases z'⟩
 keep:=λ i h h' st k=>k it (by simp) _ st
 item:=by
  intro X hP hw hK hc i pins s σ H E I hf st hg
  subst hP hw hK
  obtain ⟨f0,f1,f2,f3,f4,f5⟩:=hf it (by simp)
  have W:=Walks.range (prog:=X.prog) (w:=X.w) (I.ok.hd hc) it lo 1 n
  refine W.item i s _ _ hg st λ v h' tk hv st' kk=>?_
  obtain ⟨t,rfl⟩:=hv
  have I1:Inv X pins σ H { s with heap:=h',toks:=tk }:=I.turned (λ b o hb e=>kk b o (by simpa using hb) e) f0 f1 f3 f4 f5
  refine ⟨_,rfl,rV (s:={ s with heap:=h',toks:=tk }) (n:="range_iterator") st' rfl rfl (by decide) ⟨.int (lo+i),H,I1,⟨t,?_⟩,⟨rfl,rfl⟩,st',λ b hb=>(hf b hb).1⟩⟩
  rw [Int.mul_one]
 done:=by
  intro X hP hw hK hc i pins s σ H E I hf st hg
  subst hP hw hK
  obtain ⟨f0,f1,f2,f3,f4,f5⟩:=hf it (by simp)
  exact wpAny_pyNext_range_end (I.ok.hd hc) st (by have:n<=i:=hg; lia) λ h' eb=>⟨rfl,I.turned (t':=s.toks) (λ b o hb e=>eb b o hb e) f0 f1 f3 f4 f5⟩
 self:=λ _ _ _ _ _ st h=>wpAny_pyIter_rangeiter st h
section
variable {X:Cx} {tg:Expr}
noncomputable def rW (K:Ae) (tl:TE):TI:=λ σ H R=>tl σ H λ x H1=>∃ a,x=.ref a/\(∃ xs,SqL K H1 a xs)/\R (Itl K a) H1
noncomputable def xq (K:Ae) (tl:TE):TI:=λ σ H R=>tl σ H λ x H1=>∃ a,x=.ref a/\(∃ xs,SqT K H1 a xs)/\R (Itt K a) H1
theorem rX {l:Expr} {tl:TE} (hl:PE X l tl):PI X tg l (rW X.K tl):=by
 intro pins s σ H R I h
 refine thn (hl pins s σ H _ I h) λ v s1 ⟨x,H1,I1,r1,q1⟩=>?_
 obtain ⟨a,e,⟨xs,hq⟩,q⟩:=q1
 subst e
 cases r1
 obtain ⟨its,rv,p,hz⟩:=I1.list hq
 refine wpAny_pyIter_list p.isList ?_
 refine ⟨s1.heap.objs.size,[s1.heap.objs.size],_,_,H1,rfl,I1.kept (t':=s1.toks) λ b o e=>Aj _ e,mt a _,⟨_,AW _ rfl,rfl,rfl⟩,λ b hb=>?_,q⟩
 have e:b=s1.heap.objs.size:=by simpa using hb
 subst e
 exact I1.fpOk (Ai _) (I1.hok.fresh (Ai _))
theorem u4 {l:Expr} {tl:TE} (hl:PE X l tl):PI X tg l (xq X.K tl):=by
 intro pins s σ H R I h
 refine thn (hl pins s σ H _ I h) λ v s1 ⟨x,H1,I1,r1,q1⟩=>?_
 obtain ⟨a,e,⟨xs,hq⟩,q⟩:=q1
 subst e
 cases r1
 obtain ⟨its,rv,p,hz⟩:=I1.tuple hq
 refine wpAny_pyIter_tuple (show s1.heap.IsTuple a its.toArray from p) ?_
 refine ⟨s1.heap.objs.size,[s1.heap.objs.size],_,_,H1,rfl,I1.kept (t':=s1.toks) λ b o e=>Aj _ e,lw a _,⟨_,AW _ rfl,rfl,rfl⟩,λ b hb=>?_,q⟩
 have e:b=s1.heap.objs.size:=by simpa using hb
 subst e
 exact I1.fpOk (Ai _) (I1.hok.fresh (Ai _))
theorem pz {pins:List (Addr×Obj)} {σ:St} {H:Hp} {s:Shared} {R:It->Hp->Prop} {E:Value->Shared->Prop} {lo hi:Int} {t u v:Tok} {tk:Nat} (I:Inv X pins σ H s) (h1:-(2 ^ 62)<=lo) (h2:lo<2 ^ 62) (h3:-(2 ^ 62)<=hi) (h4:hi<2 ^ 62)
  (q:R (Itr lo (hi - lo).toNat) H):wpAny (model X.prog X.w) X.A (pyIter (.ref s.heap.objs.size)) (PIE X pins σ tg R) E { s with heap:=s.heap.push { cls:=.type "range",data:=.fields #[.int lo t,.int hi u,.int 1 v] },toks:=tk }:=by
 refine wpAny_pyIter_range (IsRange.new ..) (small_one h1 h2 h3 h4) ?_
 have I1:Inv X pins σ H { s with heap:=s.heap.push { cls:=.type "range",data:=.fields #[.int lo t,.int hi u,.int 1 v] },toks:=tk }:=I.kept λ b o e=>Aj _ e
 refine ⟨(s.heap.push { cls:=.type "range",data:=.fields #[.int lo t,.int hi u,.int 1 v] }).objs.size,[(s.heap.push { cls:=.type "range",data:=.fields #[.int lo t,.int hi u,.int 1 v] }).objs.size],_,_,H,rfl,
  I1.kept (t':=tk) λ b o e=>Aj _ e,lx _ lo (hi - lo).toNat,?_,λ b hb=>?_,q⟩
 ·have e1:lo+((0:Nat):Int)*1=lo:=by simp
  have e2:(((hi - lo).toNat:Nat):Int) - ((0:Nat):Int)=G4 lo hi 1:=by rw [rangeSize_one]; split<;>lia
  show IsRangeIter _ _ (lo+((0:Nat):Int)*1) ((((hi - lo).toNat:Nat):Int) - ((0:Nat):Int)) 1
  rw [e1,e2]
  exact AW _ rfl
 ·have e:b=(s.heap.push { cls:=.type "range",data:=.fields #[.int lo t,.int hi u,.int 1 v] }).objs.size:=by simpa using hb
  subst e
  exact I1.fpOk (Ai _) (I1.hok.fresh (Ai _))
noncomputable def rY (ta:TA):TI:=λ σ H R=>ta σ H λ vs H1=>∃ j:Int,vs=[.int j]/\-(2 ^ 62)<=j/\j<2 ^ 62/\R (Itr 0 j.toNat) H1
theorem mv {a:Expr} {ta:TA} {p pos:Pos} (hg:Gl X "range") (hm:X.mg "range" = none) (ha:PA X [a] ta) (hs:starEach [a] X.env=[(false,eval a X.env)]:=by rfl):PI X tg (.Call (.Name "range" p) [a] [] pos) (rY ta):=by
 intro pins s σ H R I h
 refine Call_ (fV I hg hm boot_range (BL (thn (ha pos pins s σ H _ I h) λ us s1 ⟨vs,H1,I1,r1,q1⟩=>?_) hs rfl))
 obtain ⟨j,e,q1,q2,q⟩:=q1
 subst e
 cases r1 with
 | cons r rr=>
  cases rr
  obtain ⟨t,rfl⟩:=r
  exact call_range_1 (pz I1 (by lia) (by lia) q1 q2 (by simpa using q))
noncomputable def wF (wi:TI) (g:TG) (tb:TS):TS:=λ D σ H=>wi σ H λ J H1=>∃ W:Nat->Nat->St->Hp->Prop,(∃ m,W 0 m σ H1)/\∀ i m σ H,W i m σ H->
 (J.stop i H/\D.nx σ H)\/(J.go i H/\∃ N:St->Hp->Prop,(∀ σ' H',N σ' H'->∃ m',m'<m/\W (i+1) m' σ' H')/\∀ x H',J.yld i H x H'->g x σ H' λ σ2 H2=>tb { D with nx:=N,ct:=N,bk:=D.nx } σ2 H2)
noncomputable def ko (fp:List Addr) (h:Heap):List (Addr×Obj):=fp.filterMap λ b=>(h.get? b).map λ o=>(b,o)
theorem cF {fp:List Addr} {h:Heap} {b:Addr} {o:Obj} (hb:b∈fp) (e:h.get? b=some o):(b,o)∈ko fp h:=Bi.mpr ⟨b,hb,by rw [e]; rfl⟩
theorem mw {fp:List Addr} {h:Heap} {p:Addr×Obj} (hp:p∈ko fp h):p.1∈fp/\h.get? p.1=some p.2:=by
 obtain ⟨b,hb,e⟩:=Bi.mp hp
 cases q:h.get? b with
 | none=>rw [q] at e; cases e
 | some o=>
  rw [q] at e
  have e':(b,o)=p:=Ba e
  subst e'
  exact ⟨hb,q⟩
theorem Inv.pinned {pins:List (Addr×Obj)} {σ:St} {H:Hp} {s:Shared} {fp:List Addr} (I:Inv X pins σ H s) (hf:∀ b∈fp,mq X pins H b) (ho:∀ b∈fp,∃ o,s.heap.get? b=some o/\∀ v,o.data≠.cell v):Inv X (pins++ko fp s.heap) σ H s:=
 I.pins_of λ p hp=>(AO.mp hp).elim (λ z=>I.pin p (AD _ z)) λ z=>by
  obtain ⟨hb,e⟩:=mw z
  obtain ⟨f0,f1,f2,_⟩:=hf p.1 hb
  obtain ⟨o,e',d⟩:=ho p.1 hb
  rw [e] at e'; cases e'
  exact ⟨e,f0,f1,f2,d⟩
theorem Inv.unpinned {pins pl:List (Addr×Obj)} {σ:St} {H:Hp} {s:Shared} (I:Inv X (pins++pl) σ H s):Inv X pins σ H s:=I.pins_of λ p hp=>I.pin p (AD _ (EJ _ hp))
theorem u5 {iter:Expr} {body:List Stmt} {wi:TI} {g:TG} {tb:TS} {pos:Pos} (hp:PassesOwn (model X.prog X.w) X.A X.env X.xe) (hc:X.calm=true) (hi:PI X tg iter wi) (hg:PG X tg g) (hb:PSs X body tb)
  (hs:∀ x,foldedSetIterable iter X.env x=pure x:=by intro _; rfl):PS X (.For tg iter body [] pos) (wF wi g tb):=by
 intro pins s σ H D I h
 refine wpAny_For (thn (hi pins s σ H _ I h) λ v s1 h1=>thn h1 λ itv s2 h2=>?_) hs
 obtain ⟨it,fp,tn,J,H2,e,I2,T,st2,f2,W,⟨m0,w0⟩,turn⟩:=h2
 subst e
 -- what stays true of the iterator's objects through the loop
 have stat:∀ {H':Hp},(∀ b∈fp,H' b=none)->∀ b∈fp,mq X pins H' b:=λ hn b hb=>⟨hn b hb,(f2 b hb).2⟩
 refine codeAny_forLoop_any (λ n s'=>∃ i σ' H',Inv X pins σ' H' s'/\tn i s'.heap/\(∀ b∈fp,H' b=none)/\W i n σ' H') ?_ m0 ⟨0,σ,H2,I2,st2,λ b hb=>(f2 b hb).1,w0⟩
 rintro n s3 ⟨i,σ3,H3,I3,st3,fr3,w3⟩
 rcases turn i n σ3 H3 w3 with ⟨stop,qn⟩ | ⟨go,N,hN,step⟩
 ·refine wpAny_passesOwn hp (thn (T.done X rfl rfl rfl hc i pins s3 σ3 H3 X.xe I3 (stat fr3) st3 stop) λ r s4 ⟨hr,I4⟩=>?_)
  subst hr
  exact wpAny_execs_nil ⟨σ3,H3,I4,qn⟩
 ·refine wpAny_passesOwn hp (thn (T.item X rfl rfl rfl hc i pins s3 σ3 H3 X.xe I3 (stat fr3) st3 go) λ r s4 ⟨u,hr,h4⟩=>?_)
  subst hr
  refine wpAny_passesOwn hp (thn h4 λ _ s5 ⟨x,H5,I5,r5,y5,st5,fr5⟩=>?_)
  have I5':=I5.pinned (stat fr5) (T.obj _ _ st5)
  refine wpAny_passesOwn hp (thn (hg _ s5 σ3 H5 x u _ I5' r5 (step x H5 y5)) λ _ s6 ⟨σ6,H6,I6,q6⟩=>?_)
  refine wpAny_passesOwn hp (thn (hb _ s6 σ6 H6 _ I6 q6) λ f s7 q7=>?_)
  have again:∀ {σ7:St} {H7:Hp},Inv X (pins++ko fp s5.heap) σ7 H7 s7->N σ7 H7->∃ m,m<n/\∃ i σ' H',Inv X pins σ' H' s7/\tn i s7.heap/\(∀ b∈fp,H' b=none)/\W i m σ' H':=λ {σ7 H7} I7 n7=>by
   obtain ⟨m',hm,w7⟩:=hN σ7 H7 n7
   refine ⟨m',hm,i+1,σ7,H7,I7.unpinned,T.keep _ _ _ st5 λ b hb o e=>(I7.pin (b,o) (AD _ (AD _ (cF hb e)))).1,λ b hb=>?_,w7⟩
   obtain ⟨o,e,d⟩:=T.obj _ _ st5 b hb
   exact (I7.pin (b,o) (AD _ (AD _ (cF hb e)))).2.1
  cases f with
  | next=>obtain ⟨σ7,H7,I7,n7⟩:=q7; exact again I7 n7
  | cont=>obtain ⟨σ7,H7,I7,n7⟩:=q7; exact again I7 n7
  | brk=>obtain ⟨σ7,H7,I7,q7⟩:=q7; exact ⟨σ7,H7,I7.unpinned,q7⟩
  | ret v=>obtain ⟨x7,σ7,H7,I7,r7,q7⟩:=q7; exact ⟨x7,σ7,H7,I7.unpinned,r7,q7⟩
end
theorem pC {K:Ae} {a:Addr} {xs:List V} {g:TG} {tb:TS} {D:Ends} {σ:St} {H:Hp} (Pv:Nat->St->Hp->Prop) (h0:Pv 0 σ H) (hl:∀ i σ H,i<=xs.length->Pv i σ H->SqL K H a xs)
  (hs:∀ i x σ H,xs[i]? = some x->Pv i σ H->g x σ H λ σ2 H2=>tb { D with nx:=Pv (i+1),ct:=Pv (i+1),bk:=D.nx } σ2 H2) (hd:∀ σ H,Pv xs.length σ H->D.nx σ H) :
  ∃ W:Nat->Nat->St->Hp->Prop,(∃ m,W 0 m σ H)/\∀ i m σ H,W i m σ H->
   ((Itl K a).stop i H/\D.nx σ H)\/((Itl K a).go i H/\∃ N:St->Hp->Prop,(∀ σ' H',N σ' H'->∃ m',m'<m/\W (i+1) m' σ' H')/\∀ x H',(Itl K a).yld i H x H'->g x σ H' λ σ2 H2=>tb { D with nx:=N,ct:=N,bk:=D.nx } σ2 H2):=by
 refine ⟨λ i m σ H=>m=xs.length - i/\i<=xs.length/\Pv i σ H,⟨xs.length,by simp,AC _,h0⟩,?_⟩
 rintro i m σ H ⟨rfl,hi,p⟩
 have q:=hl i σ H hi p
 by_cases hlt:i<xs.length
 ·refine .inr ⟨⟨xs,xs[i],q,by simp [hlt]⟩,Pv (i+1),λ σ' H' p'=>⟨xs.length - (i+1),by lia,rfl,hlt,p'⟩,λ x H' y=>?_⟩
  obtain ⟨e,y⟩:=y
  subst e
  exact hs i x σ _ (y xs q) p
 ·have e:i=xs.length:=by lia
  subst e
  exact .inl ⟨⟨xs,q,Ai _⟩,hd σ H p⟩
theorem rZ {K:Ae} {a:Addr} {xs:List V} {g:TG} {tb:TS} {D:Ends} {σ:St} {H:Hp} (Pv:Nat->St->Hp->Prop) (h0:Pv 0 σ H) (hl:∀ i σ H,i<=xs.length->Pv i σ H->SqT K H a xs)
  (hs:∀ i x σ H,xs[i]? = some x->Pv i σ H->g x σ H λ σ2 H2=>tb { D with nx:=Pv (i+1),ct:=Pv (i+1),bk:=D.nx } σ2 H2) (hd:∀ σ H,Pv xs.length σ H->D.nx σ H) :
  ∃ W:Nat->Nat->St->Hp->Prop,(∃ m,W 0 m σ H)/\∀ i m σ H,W i m σ H->
   ((Itt K a).stop i H/\D.nx σ H)\/((Itt K a).go i H/\∃ N:St->Hp->Prop,(∀ σ' H',N σ' H'->∃ m',m'<m/\W (i+1) m' σ' H')/\∀ x H',(Itt K a).yld i H x H'->g x σ H' λ σ2 H2=>tb { D with nx:=N,ct:=N,bk:=D.nx } σ2 H2):=by
 refine ⟨λ i m σ H=>m=xs.length - i/\i<=xs.length/\Pv i σ H,⟨xs.length,by simp,AC _,h0⟩,?_⟩
 rintro i m σ H ⟨rfl,hi,p⟩
 have q:=hl i σ H hi p
 by_cases hlt:i<xs.length
 ·refine .inr ⟨⟨xs,xs[i],q,by simp [hlt]⟩,Pv (i+1),λ σ' H' p'=>⟨xs.length - (i+1),by lia,rfl,hlt,p'⟩,λ x H' y=>?_⟩
  obtain ⟨e,y⟩:=y
  subst e
  exact hs i x σ _ (y xs q) p
 ·have e:i=xs.length:=by lia
  subst e
  exact .inl ⟨⟨xs,q,Ai _⟩,hd σ H p⟩
theorem dc {lo:Int} {n:Nat} {g:TG} {tb:TS} {D:Ends} {σ:St} {H:Hp} (Pv:Nat->St->Hp->Prop) (h0:Pv 0 σ H)
  (hs:∀ i σ H,i<n->Pv i σ H->g (.int (lo+i)) σ H λ σ2 H2=>tb { D with nx:=Pv (i+1),ct:=Pv (i+1),bk:=D.nx } σ2 H2) (hd:∀ σ H,Pv n σ H->D.nx σ H) :
  ∃ W:Nat->Nat->St->Hp->Prop,(∃ m,W 0 m σ H)/\∀ i m σ H,W i m σ H->
   ((Itr lo n).stop i H/\D.nx σ H)\/((Itr lo n).go i H/\∃ N:St->Hp->Prop,(∀ σ' H',N σ' H'->∃ m',m'<m/\W (i+1) m' σ' H')/\∀ x H',(Itr lo n).yld i H x H'->g x σ H' λ σ2 H2=>tb { D with nx:=N,ct:=N,bk:=D.nx } σ2 H2):=by
 refine ⟨λ i m σ H=>m=n - i/\i<=n/\Pv i σ H,⟨n,by simp,AC _,h0⟩,?_⟩
 rintro i m σ H ⟨rfl,hi,p⟩
 by_cases hlt:i<n
 ·refine .inr ⟨hlt,Pv (i+1),λ σ' H' p'=>⟨n - (i+1),by lia,rfl,hlt,p'⟩,λ x H' y=>?_⟩
  obtain ⟨e,y⟩:=y
  subst e y
  exact hs i σ _ hlt p
 ·have e:i=n:=by lia
  subst e
  exact .inl ⟨Ai _,hd σ H p⟩
noncomputable abbrev R2:=V->V->Hp->VK->Prop
noncomputable def OpR (X:Cx) (f:Value->Value->Sem Value) (r:R2):Prop:=
 ∀ (pins:List (Addr×Obj)) (s:Shared) (σ:St) (H:Hp) (x y:V) (v u:Value) (Q:VK),Inv X pins σ H s->RelV x v->RelV y u->r x y H Q->
  wpAny (model X.prog X.w) X.A (f v u) (EP X pins σ Q) X.xe s
noncomputable def UnR (X:Cx) (f:Value->Sem Value) (r:V->Hp->VK->Prop):Prop:=
 ∀ (pins:List (Addr×Obj)) (s:Shared) (σ:St) (H:Hp) (x:V) (v:Value) (Q:VK),Inv X pins σ H s->RelV x v->r x H Q->
  wpAny (model X.prog X.w) X.A (f v) (EP X pins σ Q) X.xe s
noncomputable def cY (X:Cx) (f:Value) (r:List V->Hp->VK->Prop):Prop:=
 ∀ (pins:List (Addr×Obj)) (s:Shared) (σ:St) (H:Hp) (xs:List V) (us:List Value) (Q:VK),Inv X pins σ H s->Vals xs us->r xs H Q->
  wpAny (model X.prog X.w) X.A (call f us) (EP X pins σ Q) X.xe s
noncomputable def zt (X:Cx) (r:V->Hp->(Bool->Hp->Prop)->Prop):Prop:=
 ∀ (pins:List (Addr×Obj)) (s:Shared) (σ:St) (H:Hp) (x:V) (v:Value) (Q:Bool->Hp->Prop),Inv X pins σ H s->RelV x v->r x H Q->
  wpAny (model X.prog X.w) X.A (truthy v) (TP X pins σ Q) X.xe s
noncomputable def tOp (r:R2) (ta tb:TE):TE:=λ σ H Q=>ta σ H λ x H1=>tb σ H1 λ y H2=>r x y H2 Q
noncomputable def tUn (r:V->Hp->VK->Prop) (ta:TE):TE:=λ σ H Q=>ta σ H λ x H1=>r x H1 Q
noncomputable def rI (C:Int->Int->Prop) (g:Int->Int->V):R2:=λ x y H Q=>∃ i j,x=.int i/\y=.int j/\C i j/\Q (g i j) H
noncomputable def rI0 (g:Int->Int->V):R2:=λ x y H Q=>∃ i j,x=.int i/\y=.int j/\Q (g i j) H
noncomputable def rU (g:Int->V):V->Hp->VK->Prop:=λ x H Q=>∃ i,x=.int i/\Q (g i) H
section
variable {X:Cx} {a b c:Expr} {ta tb tc:TE} {pos:Pos}
theorem xr (ha:PE X a ta) (hb:PE X b tb) {pins:List (Addr×Obj)} {s:Shared} {σ:St} {H:Hp} {R:V->V->Hp->Prop} (I:Inv X pins σ H s)
  (h:ta σ H λ x H1=>tb σ H1 λ y H2=>R x y H2) {Q:Value->Shared->Prop} {f:Value->Value->Sem Value}
  (hf:∀ v u s2 x y H2,Inv X pins σ H2 s2->RelV x v->RelV y u->R x y H2->wpAny (model X.prog X.w) X.A (f v u) Q X.xe s2) :
  wpAny (model X.prog X.w) X.A (eval a X.env) (λ v s₁=>wpAny (model X.prog X.w) X.A (eval b X.env) (λ u s₂=>wpAny (model X.prog X.w) X.A (f v u) Q X.xe s₂) X.xe s₁) X.xe s:=by
 refine thn (ha pins s σ H _ I h) λ v s1 ⟨x,H1,I1,r1,q1⟩=>?_
 refine thn (hb pins s1 σ H1 _ I1 q1) λ u s2 ⟨y,H2,I2,r2,q2⟩=>?_
 exact hf v u s2 x y H2 I2 r1 r2 q2
theorem xt {op:Operator} {r:R2} (ho:OpR X (binaryOp op) r) (ha:PE X a ta) (hb:PE X b tb):PE X (.BinOp a op b pos) (tOp r ta tb):=by
 intro pins s σ H Q I h
 exact wpAny_BinOp (xr ha hb I h λ v u s2 x y H2 I2 rx ry q=>ho pins s2 σ H2 x y v u Q I2 rx ry q)
theorem xu {op:UnaryOp} {r:V->Hp->VK->Prop} (ho:UnR X (unaryOp op) r) (ha:PE X a ta):PE X (.UnaryOp op a pos) (tUn r ta):=by
 intro pins s σ H Q I h
 exact UnaryOp_ (thn (ha pins s σ H _ I h) λ v s1 ⟨x,H1,I1,r1,q1⟩=>ho pins s1 σ H1 x v Q I1 r1 q1)
theorem opI {f:Value->Value->Sem Value} {C:Int->Int->Prop} {g:Int->Int->Int}
  (rule:∀ (i j:Int) (t u:Tok) (s:Shared) (Q:Value->Shared->Prop) (E:Value->Shared->Prop),C i j->Q (.int (g i j) s.toks) { s with toks:=s.toks+1 }->wpAny (model X.prog X.w) X.A (f (.int i t) (.int j u)) Q E s) :
  OpR X f (rI C λ i j=>.int (g i j)):=by
 intro pins s σ H x y v u Q I rx ry h
 obtain ⟨i,j,rfl,rfl,hc,q⟩:=h
 obtain ⟨t,rfl⟩:=rx
 obtain ⟨t',rfl⟩:=ry
 exact rule i j t t' s _ _ hc ⟨.int (g i j),H,I.tok _,⟨_,rfl⟩,q⟩
theorem yD {f:Value->Value->Sem Value} {g:Int->Int->Int}
  (rule:∀ (i j:Int) (t u:Tok) (s:Shared) (Q:Value->Shared->Prop) (E:Value->Shared->Prop),Q (.int (g i j) s.toks) { s with toks:=s.toks+1 }->wpAny (model X.prog X.w) X.A (f (.int i t) (.int j u)) Q E s) :
  OpR X f (rI0 λ i j=>.int (g i j)):=by
 intro pins s σ H x y v u Q I rx ry h
 obtain ⟨i,j,rfl,rfl,q⟩:=h
 obtain ⟨t,rfl⟩:=rx
 obtain ⟨t',rfl⟩:=ry
 exact rule i j t t' s _ _ ⟨.int (g i j),H,I.tok _,⟨_,rfl⟩,q⟩
theorem xw {f:Value->Value->Sem Value} {g:Int->Int->Bool}
  (rule:∀ (i j:Int) (t u:Tok) (s:Shared) (Q:Value->Shared->Prop) (E:Value->Shared->Prop),Q (.bool (g i j)) s->wpAny (model X.prog X.w) X.A (f (.int i t) (.int j u)) Q E s) :
  OpR X f (rI0 λ i j=>.bl (g i j)):=by
 intro pins s σ H x y v u Q I rx ry h
 obtain ⟨i,j,rfl,rfl,q⟩:=h
 obtain ⟨t,rfl⟩:=rx
 obtain ⟨t',rfl⟩:=ry
 exact rule i j t t' s _ _ ⟨.bl (g i j),H,I,rfl,q⟩
noncomputable def zu (i j:Int):Prop:=0<j/\j<1073741824
noncomputable def wG (i j:Int):Prop:=0<=j/\j<=1000000/\i.natAbs<2 ^ 64
noncomputable def CMul (i j:Int):Prop:=(-(2 ^ 64)<i/\i<2 ^ 64)\/(-(2 ^ 64)<j/\j<2 ^ 64)
theorem CMul.ok {i j:Int} (h:CMul i j):IntMulOk i j:=by
 rcases h with ⟨h1,h2⟩ | ⟨h1,h2⟩
 ·exact .of_left (intBits_le_64 h1 h2)
 ·exact .of_right (intBits_le_64 h1 h2)
theorem u6:OpR X (binaryOp .Add) (rI0 λ i j=>.int (i+j)):=yD λ _ _ _ _ _ _ _ q=>add_int q
theorem u7:OpR X (binaryOp .Sub) (rI0 λ i j=>.int (i - j)):=yD λ _ _ _ _ _ _ _ q=>sub_int q
theorem va:OpR X (binaryOp .Mult) (rI CMul λ i j=>.int (i*j)):=opI λ _ _ _ _ _ _ _ hc q=>mul_int q hc.ok
theorem vb:OpR X (binaryOp .Mod) (rI (λ _ j=>0<j) λ i j=>.int (i % j)):=opI λ i j _ _ _ _ _ hc q=>by
 have h1:(0:Int)<j:=hc
 exact mod_int' (by lia) (by rw [Int.fmod_eq_emod_of_nonneg i (by lia)]; exact q)
theorem vc:OpR X (binaryOp .Pow) (rI wG λ i j=>.int (i ^ j.toNat)):=opI λ _ _ _ _ _ _ _ hc q=>pow_int_small hc.1 hc.2.1 hc.2.2 q
theorem unI {f:Value->Sem Value} {g:Int->Int}
  (rule:∀ (i:Int) (t:Tok) (s:Shared) (Q:Value->Shared->Prop) (E:Value->Shared->Prop),Q (.int (g i) s.toks) { s with toks:=s.toks+1 }->wpAny (model X.prog X.w) X.A (f (.int i t)) Q E s) :
  UnR X f (rU λ i=>.int (g i)):=by
 intro pins s σ H x v Q I rx h
 obtain ⟨i,rfl,q⟩:=h
 obtain ⟨t,rfl⟩:=rx
 exact rule i t s _ _ ⟨.int (g i),H,I.tok _,⟨_,rfl⟩,q⟩
theorem vd:UnR X (unaryOp .USub) (rU λ i=>.int (-i)):=unI λ _ _ _ _ _ q=>neg_int q
end
noncomputable def yE:V->V->Bool
 | .non,.non=>true | .non,.int _=>true | .int _,.non=>true | .non,.bl _=>true | .bl _,.non=>true | .non,.str _=>true | .str _,.non=>true
 | .int _,.int _=>true | .bl _,.bl _=>true | .str _,.str _=>true | .byt _,.byt _=>true
 | .int _,.str _=>true | .str _,.int _=>true | .bl _,.str _=>true | .str _,.bl _=>true
 | _,_=>false
noncomputable def rEq:R2:=λ x y H Q=>yE x y=true/\Q (.bl (decide (x=y))) H
noncomputable def rNe:R2:=λ x y H Q=>yE x y=true/\Q (.bl (!decide (x=y))) H
theorem my {i j:Int}:decide (V.int i=V.int j)=(i == j):=by
 rw [Dm]
 simp
theorem qN {i j:Bool}:decide (V.bl i=V.bl j)=(i == j):=by
 rw [Dm]
 simp
theorem mz {i j:Str}:decide (V.str i=V.str j)=(i == j):=by
 rw [Dm]
 simp
theorem mB {i j:Array UInt8}:decide (V.byt i=V.byt j)=(i.toList == j.toList):=by
 rw [Dm]
 cases i
 cases j
 simp
section
variable {X:Cx} {a b c:Expr} {ta tb tc:TE} {pos:Pos}
theorem aI {pins:List (Addr×Obj)} {σ:St} {H:Hp} {s:Shared} {Q:VK} {k k':Bool} (I:Inv X pins σ H s) (q:Q (.bl k) H) (e:k=k'):EP X pins σ Q (.bool k') s:=by
 subst e
 exact ⟨.bl k,H,I,rfl,q⟩
theorem xx:OpR X (compareOp .Eq) rEq:=by
 intro pins s σ H x y v u Q I rx ry h
 obtain ⟨hs,q⟩:=h
 cases x with
 | non=>
  cases rx
  cases y with
  | non=>cases ry; exact Gw (aI I q (by simp))
  | bl j=>cases ry; exact Gx (aI I q (by simp))
  | int j=>obtain ⟨t',rfl⟩:=ry; exact GJ (aI I q (by simp))
  | str j=>obtain ⟨t',rfl⟩:=ry; exact GK (aI I q (by simp))
  | _=>exact absurd (show false=true from hs) Ao
 | bl i=>
  cases rx
  cases y with
  | non=>cases ry; exact Gy (aI I q (by simp))
  | bl j=>cases ry; exact eq_bool (aI I q qN)
  | str j=>obtain ⟨t',rfl⟩:=ry; exact Gz (aI I q (by simp))
  | _=>exact absurd (show false=true from hs) Ao
 | int i=>
  obtain ⟨t,rfl⟩:=rx
  cases y with
  | non=>cases ry; exact GL (aI I q (by simp))
  | int j=>obtain ⟨t',rfl⟩:=ry; exact eq_int (aI I q my)
  | str j=>obtain ⟨t',rfl⟩:=ry; exact GN (aI I q (by simp))
  | _=>exact absurd (show false=true from hs) Ao
 | str i=>
  obtain ⟨t,rfl⟩:=rx
  cases y with
  | non=>cases ry; exact GO (aI I q (by simp))
  | bl j=>cases ry; exact GA (aI I q (by simp))
  | int j=>obtain ⟨t',rfl⟩:=ry; exact GP (aI I q (by simp))
  | str j=>obtain ⟨t',rfl⟩:=ry; exact eq_str (aI I q mz)
  | _=>exact absurd (show false=true from hs) Ao
 | byt i=>
  obtain ⟨t,rfl⟩:=rx
  cases y with
  | byt j=>obtain ⟨t',rfl⟩:=ry; exact PySem.W.eq_bytes (aI I q mB)
  | _=>exact absurd (show false=true from hs) Ao
 | _=>cases y<;>exact absurd (show false=true from hs) Ao
theorem xz:OpR X (compareOp .NotEq) rNe:=by
 intro pins s σ H x y v u Q I rx ry h
 obtain ⟨hs,q⟩:=h
 cases x with
 | non=>
  cases rx
  cases y with
  | non=>cases ry; exact GB (aI I q (by simp))
  | bl j=>cases ry; exact GC (aI I q (by simp))
  | int j=>obtain ⟨t',rfl⟩:=ry; exact GQ (aI I q (by simp))
  | str j=>obtain ⟨t',rfl⟩:=ry; exact GR (aI I q (by simp))
  | _=>exact absurd (show false=true from hs) Ao
 | bl i=>
  cases rx
  cases y with
  | non=>cases ry; exact GD (aI I q (by simp))
  | bl j=>cases ry; exact ne_bool (aI I q (congrArg not qN))
  | str j=>obtain ⟨t',rfl⟩:=ry; exact GE (aI I q (by simp))
  | _=>exact absurd (show false=true from hs) Ao
 | int i=>
  obtain ⟨t,rfl⟩:=rx
  cases y with
  | non=>cases ry; exact GS (aI I q (by simp))
  | int j=>obtain ⟨t',rfl⟩:=ry; exact ne_int (aI I q (congrArg not my))
  | str j=>obtain ⟨t',rfl⟩:=ry; exact GT (aI I q (by simp))
  | _=>exact absurd (show false=true from hs) Ao
 | str i=>
  obtain ⟨t,rfl⟩:=rx
  cases y with
  | non=>cases ry; exact GU (aI I q (by simp))
  | bl j=>cases ry; exact GF (aI I q (by simp))
  | int j=>obtain ⟨t',rfl⟩:=ry; exact GV (aI I q (by simp))
  | str j=>obtain ⟨t',rfl⟩:=ry; exact ne_str (aI I q (congrArg not mz))
  | _=>exact absurd (show false=true from hs) Ao
 | byt i=>
  obtain ⟨t,rfl⟩:=rx
  cases y with
  | byt j=>obtain ⟨t',rfl⟩:=ry; exact PySem.W.ne_bytes (aI I q (congrArg not mB))
  | _=>exact absurd (show false=true from hs) Ao
 | _=>cases y<;>exact absurd (show false=true from hs) Ao
theorem xA:OpR X (compareOp .Lt) (rI0 λ i j=>.bl (decide (i<j))):=xw λ _ _ _ _ _ _ _ q=>lt_int q
theorem xB:OpR X (compareOp .Gt) (rI0 λ i j=>.bl (decide (j<i))):=xw λ _ _ _ _ _ _ _ q=>gt_int q
theorem xC:OpR X (compareOp .GtE) (rI0 λ i j=>.bl (decide (j<=i))):=xw λ _ _ _ _ _ _ _ q=>ge_int q
theorem ve:OpR X (compareOp .Is) (λ x y H Q=>y=.non/\Q (.bl (decide (x=.non))) H):=by
 intro pins s σ H x y v u Q I rx ry h
 obtain ⟨rfl,q⟩:=h
 cases ry
 refine is_none_gen (aI I q ?_)
 cases x<;>first
  | (cases rx; rfl)
  | (obtain ⟨t,rfl⟩:=rx; rfl)
theorem r9:OpR X (compareOp .IsNot) (λ x y H Q=>y=.non/\Q (.bl (!decide (x=.non))) H):=by
 intro pins s σ H x y v u Q I rx ry h
 obtain ⟨rfl,q⟩:=h
 cases ry
 refine isnot_none_gen (aI I q ?_)
 cases x<;>first
  | (cases rx; rfl)
  | (obtain ⟨t,rfl⟩:=rx; rfl)
theorem aE (b:Expr) {op:CmpOp} (h:op≠.In:=by decide) (h2:op≠.NotIn:=by decide):behindInMarks op b=false:=by
 have e1:(op == CmpOp.In)=false:=by cases op<;>first | rfl | exact absurd rfl h
 have e2:(op == CmpOp.NotIn)=false:=by cases op<;>first | rfl | exact absurd rfl h2
 cases b<;>simp [behindInMarks,e1,e2]
theorem sd {op:CmpOp} {r:R2} (ho:OpR X (compareOp op) r) (ha:PE X a ta) (hb:PE X b tb) (hm:behindInMarks op b=false):PE X (.Compare a [op] [b] pos) (tOp r ta tb):=by
 intro pins s σ H Q I h
 exact wpAny_Compare1 (xr ha hb I h λ v u s2 x y H2 I2 rx ry q=>ho pins s2 σ H2 x y v u Q I2 rx ry q) hm
noncomputable def se (t:TE):TT:=λ σ H Q=>t σ H λ x H'=>∃ k,x=.bl k/\Q k H'
theorem sf {op:CmpOp} {r:R2} (ho:OpR X (compareOp op) r) (ha:PE X a ta) (hb:PE X b tb) (hm:behindInMarks op b=false):PT X (.Compare a [op] [b] pos) (se (tOp r ta tb)):=by
 intro pins s σ H Q I h
 refine wpAny_isTrue_Compare1 (thn (ha pins s σ H _ I h) λ v s1 ⟨x,H1,I1,r1,q1⟩=>thn (hb pins s1 σ H1 _ I1 q1) λ u s2 ⟨y,H2,I2,r2,q2⟩=>
  thn (ho pins s2 σ H2 x y v u _ I2 r1 r2 q2) λ c s3 ⟨z,H3,I3,r3,k,e,q3⟩=>?_) hm
 subst e
 cases r3
 exact wpAny_truthy_bool ⟨H3,I3,q3⟩
noncomputable def vf (K:Ae) (x:V) (H:Hp) (k:Bool):Prop:=
 match x with
 | .non=>k=false
 | .bl b=>k=b
 | .int i=>k=(i != 0)
 | .str y=>y.length<=sizeLine/\k=((y.length:Int) != 0)
 | .byt y=>y.size<=sizeLine/\k=((y.size:Int) != 0)
 | .ref p=>(∃ xs,SqL K H p xs/\k=!xs.isEmpty)\/(∃ xs,SqT K H p xs/\k=!xs.isEmpty)\/∃ kvs,H p=some (.dK kvs)/\k=!kvs.isEmpty
 | _=>False
theorem ly {κ:Type} {kvs:List (κ×V)} {vs:List (κ×Value)} (r:KV kvs vs):(!vs.isEmpty)=!kvs.isEmpty:=by
 cases r<;>rfl
theorem hW {xs:List V} {its:List Value} (r:Vals xs its):(!its.toArray.isEmpty)=!xs.isEmpty:=by
 cases r<;>simp
theorem fy:(sizeLine:Nat)<2 ^ 63:=by rw [sizeLine_eq]; decide
theorem vg:zt X (λ x H Q=>∃ k,vf X.K x H k/\Q k H):=by
 intro pins s σ H x v Q I rx h
 obtain ⟨k,e,q⟩:=h
 have hl:=fy
 have hs:sizeLine=16777216:=sizeLine_eq
 cases x with
 | non=>
  cases rx
  have e':k=false:=e
  subst e'
  exact truthy_none ⟨H,I,q⟩
 | bl b=>
  cases rx
  have e':k=b:=e
  subst e'
  exact wpAny_truthy_bool ⟨H,I,q⟩
 | int i=>
  obtain ⟨t,rfl⟩:=rx
  have e':k=(i != 0):=e
  subst e'
  exact PySem.P.truthy_int ⟨H,I,q⟩
 | str y=>
  obtain ⟨t,rfl⟩:=rx
  obtain ⟨hy,e'⟩:y.length<=sizeLine/\k=((y.length:Int) != 0):=e
  subst e'
  exact PySem.P.truthy_str (by lia) ⟨H,I.tok _,q⟩
 | byt y=>
  obtain ⟨t,rfl⟩:=rx
  obtain ⟨hy,e'⟩:y.size<=sizeLine/\k=((y.size:Int) != 0):=e
  subst e'
  exact PySem.W.truthy_bytes (by lia) ⟨H,I.tok _,q⟩
 | ref p=>
  cases rx
  have e':(∃ xs,SqL X.K H p xs/\k=!xs.isEmpty)\/(∃ xs,SqT X.K H p xs/\k=!xs.isEmpty)\/∃ kvs,H p=some (.dK kvs)/\k=!kvs.isEmpty:=e
  rcases e' with ⟨xs,hx,e'⟩ | ⟨xs,hx,e'⟩ | ⟨kvs,hx,e'⟩
  ·subst e'
   obtain ⟨its,r,pl,hz⟩:=I.list hx
   have hlen:=r.length
   exact wpAny_truthy_list pl.isList (by simp only [Ar]; lia) ⟨H,I.tok _,by rw [hW r]; exact q⟩
  ·subst e'
   obtain ⟨its,r,pl,hz⟩:=I.tuple hx
   have hlen:=r.length
   exact truthy_tuple pl (by simp only [Ar]; lia) ⟨H,I.tok _,by rw [hW r]; exact q⟩
  ·subst e'
   obtain ⟨hz,hS,vs,r,m⟩:kvs.length<=sizeLine/\(p == sysModules)=false/\∃ vs,KV kvs vs/\s.heap.DictOf (jM X.prog X.w) p vs:=I.hok p _ hx
   have hlen:kvs.length=vs.length:=Gp r
   exact wpAny_truthy_dict hS m (by lia) ⟨H,I.tok _,by rw [ly r]; exact q⟩
 | _=>exact (show False from e).elim
theorem pD (ha:PE X a ta) (he:∀ whole,isTrue a X.env whole=(do let v <-whole; standAt a.pos; holding [v] (truthy v))) :
  PT X a (λ σ H Q=>ta σ H λ x H'=>∃ k,vf X.K x H' k/\Q k H'):=by
 intro pins s σ H Q I h
 exact isTrue_plain (thn (ha pins s σ H _ I h) λ v s1 ⟨x,H1,I1,r1,q1⟩=>vg pins s1 σ H1 x v Q I1 r1 q1) (he _)
theorem im {x:V} {us:List Value} (r:Vals [x] us):∃ u,us=[u]/\RelV x u:=by
 cases r with
 | cons r1 r2=>cases r2; exact ⟨_,rfl,r1⟩
theorem sg {x y:V} {us:List Value} (r:Vals [x,y] us):∃ u w',us=[u,w']/\RelV x u/\RelV y w':=by
 cases r with
 | cons r1 r2=>
  cases r2 with
  | cons r3 r4=>cases r4; exact ⟨_,_,rfl,r1,r3⟩
theorem pE:cY X (.builtin "abs") (λ xs H Q=>∃ i,xs=[.int i]/\Q (.int (if i<0 then -i else i)) H):=by
 intro pins s σ H xs us Q I r h
 obtain ⟨i,rfl,q⟩:=h
 obtain ⟨u,rfl,t,rfl⟩:=im r
 exact call_abs_int λ u tk=>⟨.int (if i<0 then -i else i),H,I.tok _,⟨_,rfl⟩,q⟩
theorem mC (hc:X.calm=true):cY X (.builtin "min") (λ xs H Q=>∃ i j,xs=[.int i,.int j]/\Q (.int (if j<i then j else i)) H):=by
 intro pins s σ H xs us Q I r h
 obtain ⟨i,j,rfl,q⟩:=h
 obtain ⟨u,w',rfl,⟨t,rfl⟩,⟨t',rfl⟩⟩:=sg r
 refine min_two_ints (I.ok.hd hc) λ h' tk k=>⟨_,H,I.kept k,?_,q⟩
 by_cases hj:j<i
 ·rw [if_pos hj,if_pos hj]; exact ⟨_,rfl⟩
 ·rw [if_neg hj,if_neg hj]; exact ⟨_,rfl⟩
theorem mD:cY X (.type "int") (λ xs H Q=>(∃ i,xs=[.int i]/\Q (.int i) H)\/∃ k,xs=[.bl k]/\Q (.int (if k then 1 else 0)) H):=by
 intro pins s σ H xs us Q I r h
 rcases h with ⟨i,rfl,q⟩ | ⟨k,rfl,q⟩
 ·obtain ⟨u,rfl,t,rfl⟩:=im r
  exact call_int_int ⟨.int i,H,I,⟨_,rfl⟩,q⟩
 ·obtain ⟨u,rfl,r1⟩:=im r
  cases r1
  exact call_int_bool ⟨.int (if k then 1 else 0),H,I.tok _,⟨_,rfl⟩,q⟩
end
structure ObjM (h:Heap) (x dx C:Addr) (mA:Str->Option Value):Prop where
 obj:h.get? x=some (BK C dx)
 ns:h.Ns1 dx mA
 ne:dx≠x
theorem jb {h:Heap} {dx:Addr} {mA:Str->Option Value} (n:h.Ns1 dx mA):∃ od,h.get? dx=some od/\∀ name,Dy name od=some (mA name):=by
 obtain ⟨o,es,ep,ho,hd,hk,_,hm⟩:=n
 refine ⟨o,ho,λ name=>?_⟩
 have e:=hm name
 unfold nsFind findBy at e
 rw [<-E2] at e
 unfold Dy
 rw [hd]
 dsimp only
 split
 ·rename_i y q
  rw [q] at e
  exact congrArg some e
 ·rename_i q
  rw [q] at e
  have a:es.toList.any (·.refKey)=false:=by
   rw [List.any_eq_false]
   intro y hy
   obtain ⟨z,t,hkey⟩:=hk y (EK.mp hy)
   simp [HI,hkey]
  have a':¬ es.toList.any (·.refKey)=true:=by rw [a]; exact Ao
  rw [if_neg a']
  exact congrArg some e
theorem ObjM.look {h:Heap} {x dx C:Addr} {mA:Str->Option Value} (I:ObjM h x dx C mA):∃ od,PySem.W.InstAt h x (BK C dx) C (some od)/\∀ name,Dy name od=some (mA name):=
 let ⟨od,ho,hl⟩:=jb I.ns
 ⟨od,⟨I.obj,rfl,rfl,ho⟩,hl⟩
section
variable {prog:Program} {w:World} {A:Around} {E:Value->Shared->Prop} {s:Shared} {K:Ae} {x dx C f:Addr} {mA:Str->Option Value} {name:Str} {v:Value}
theorem si {expr:Bool} {Q:Value->Shared->Prop} (X:K.In s.heap) (I:ObjM s.heap x dx C mA) (hg:CL K C name=true) (hh:Cb K C=true)
  (ha:AI K (.ref C) name=some none) (hv:mA name=some v) (hv':FB v=true) (h:Q v { s with toks:=s.toks+1 }) :
  wpAny (model prog w) A (getAttr (.ref x) name expr) Q E s:=by
 obtain ⟨od,J,hl⟩:=I.look
 exact PySem.W.get_value X J (Dw hg).1 (PySem.W.findObj_own hh ha rfl (by rw [hl,hv])) hv' h
theorem pF {pl:Sem Bool} {Q:Value×List Value->Shared->Prop} (X:K.In s.heap) (I:ObjM s.heap x dx C mA) (hg:CL K C name=true)
  (hf:AI K (.ref C) name=some (some (.ref f))) (ht:Co K (.ref f)=true) (hv:mA name=none) (h:Q (.ref f,[.ref x]) s) :
  wpAny (model prog w) A (getMethod (.ref x) name pl) Q E s:=by
 obtain ⟨od,J,hl⟩:=I.look
 exact PySem.W.method_fn X J (Dw hg).1 (Dw hg).2 hf (beq_iff_eq.mp ht) (by show (Dy name od).map (·.isSome)=some false; rw [hl,hv]; rfl) h
theorem sj {ns:List Str} {Q:Unit->Shared->Prop} (X:K.In s.heap) (I:ObjM s.heap x dx C mA)
  (hs:AI K (.ref C) "__setattr__" = some (some (.builtin "object.__setattr__"))) (hp:DS K C=true) (ht:Eg K C name=some none) (hh:Cb K C=true)
  (hw:EZ mA ns) (hsz:ns.length<=sizeLine)
  (h:∀ h',ObjM h' x dx C (λ y=>if y=name then some v else mA y)->D4 dx s.heap h'->Q () { s with heap:=h',toks:=s.toks+2 }) :
  wpAny (model prog w) A (setAttr (.ref x) name v) Q E s:=by
 obtain ⟨od,J,hl⟩:=I.look
 refine PySem.W.set_plain X J hs (PySem.W.osa_open (s:={ s with toks:=s.toks+1 }) (r:=none) X J hp ht λ b=>?_)
 obtain ⟨cd,hc,hd'⟩:=PySem.W.any_some hh
 have hx:s.heap.get? x=some ⟨.ref C,some dx,.plain,#[]⟩:=I.obj
 refine wpAny_bind (wpAny_pure (wpAny_bind (wpAny_bind (wpAny_loadPart hx (wpAny_bind (Hq (s:={ s with toks:=s.toks+1 }) (PySem.W.looks_clsIn X hc) ?_))))))
 rw [hd']
 refine wpAny_pure (a:=some dx) (wpAny_bind (wpAny_pure (wpAny_bind ?_)))
 refine wpAny_nsSet1 (s:={ s with toks:=s.toks+1 }) I.ns λ h' hn2 hs2=>?_
 obtain ⟨oD,esD,epD,hoD,hdD,hcD⟩:=hn2.count (Hz name v hw)
 refine wpAny_bind (wpAny_lookBehind hoD (by rw [hdD]; exact pastItsLine_dict (Bg hcD (by rw [Az]; lia))) ?_)
 exact wpAny_pure (h _ ⟨(hs2.2 _ (AV I.ne)).trans I.obj,hn2,I.ne⟩ hs2)
theorem kq {R:Result->Shared->Prop} {vs:List Value} {kw:List (Str×Value)} (X:K.In s.heap) (hm:Eh K C=true)
  (hi:AI K (.ref C) "__init__" = some (some (.ref f))) (hf:PySem.W.typeIn K (.ref f)=some (.type "function"))
  (h:codeAny (model prog w) (A.under (.builtin "type.__call__" ⟨.ref C::vs,kw⟩)) (.call (.ref f) ⟨.ref (s.heap.objs.size+1)::vs,kw⟩) (PySem.W.InitBack (s.heap.objs.size+1) R)
   { s with heap:=(s.heap.push Bt).push (BK C s.heap.objs.size) }) :
  codeAny (model prog w) A (.call (.ref C) ⟨vs,kw⟩) R s:=by
 obtain ⟨hh,g,d,t,os⟩:=s
 exact PySem.W.make_core (PySem.W.makes_of X hm) (PySem.W.looks_findIn X hi) (λ self=>PySem.W.bind_fn X self hf) (.inl rfl) h
end
noncomputable def c9 (f:Str) (v:V):List (Str×V)->List (Str×V)
 | []=>[(f,v)]
 | (g,x)::r=>if g=f then (g,v)::r else (g,x)::c9 f v r
theorem fW (f g:Str) (v:V):∀ fs:List (Str×V),(c9 f v fs).lookup g=if g=f then some v else fs.lookup g
 | []=>by
  show Br g [(f,v)]=_
  by_cases h:g=f
  ·have hb:(g == f)=true:=beq_iff_eq.mpr h
   simp only [Br,hb,if_pos h]
  ·have hb:(g == f)=false:=beq_eq_false_iff_ne.mpr h
   simp only [Br,hb,if_neg h]
 | (k,x)::r=>by
  have ih:=fW f g v r
  rw [show c9 f v ((k,x)::r)=(if k=f then (k,v)::r else (k,x)::c9 f v r) from rfl]
  by_cases hk:k=f
  ·rw [if_pos hk]
   by_cases h:g=k
   ·have hb:(g == k)=true:=beq_iff_eq.mpr h
    simp only [Br,hb,if_pos (h.trans hk)]
   ·have hb:(g == k)=false:=beq_eq_false_iff_ne.mpr h
    simp only [Br,hb,if_neg (λ e:g=f=>h (e.trans hk.symm))]
  ·rw [if_neg hk]
   by_cases h:g=k
   ·have hb:(g == k)=true:=beq_iff_eq.mpr h
    simp only [Br,hb,if_neg (λ e:g=f=>hk (h.symm.trans e))]
   ·have hb:(g == k)=false:=beq_eq_false_iff_ne.mpr h
    simp only [Br,hb]
    exact ih
theorem fX (f:Str) (v:V):∀ fs:List (Str×V),f∈(c9 f v fs).map (·.1)/\∀ g,g∈fs.map (·.1)->g∈(c9 f v fs).map (·.1)
 | []=>⟨by simp [c9],λ g h=>by simp at h⟩
 | (k,x)::r=>by
  obtain ⟨i1,i2⟩:=fX f v r
  rw [show c9 f v ((k,x)::r)=(if k=f then (k,v)::r else (k,x)::c9 f v r) from rfl]
  by_cases hk:k=f
  ·rw [if_pos hk]
   subst hk
   exact ⟨by simp,λ g h=>by simpa using h⟩
  ·rw [if_neg hk]
   refine ⟨?_,λ g h=>?_⟩
   ·rw [Bo]
    exact AG _ i1
   ·rw [Bo] at h ⊢
    rcases Al.mp h with e | e
    ·exact Al.mpr (.inl e)
    ·exact AG _ (i2 g e)
theorem fY (f:Str) (v:V):∀ fs:List (Str×V),(c9 f v fs).length<=fs.length+1
 | []=>by simp [c9]
 | (k,x)::r=>by
  have ih:=fY f v r
  rw [show c9 f v ((k,x)::r)=(if k=f then (k,v)::r else (k,x)::c9 f v r) from rfl]
  by_cases hk:k=f
  ·rw [if_pos hk,Az,Az]; lia
  ·rw [if_neg hk,Az,Az]; lia
theorem RelO.some_of {v:V} {o:Option Value} (r:RelO (some v) o):∃ u,o=some u/\RelV v u:=by
 cases o with
 | none=>exact (show False from r).elim
 | some u=>exact ⟨u,rfl,r⟩
theorem RelO.none_of {o:Option Value} (r:RelO none o):o=none:=by
 cases o with
 | none=>rfl
 | some u=>exact (show False from r).elim
theorem jc {v:V} {u:Value} (r:RelV v u):FB u=true:=by
 cases v with
 | non=>cases (show u=AT from r); rfl
 | bl b=>cases (show u=C3 b from r); rfl
 | int i=>obtain ⟨t,e⟩:=(show ∃ t,u=Ef i t from r); cases e; rfl
 | str x=>obtain ⟨t,e⟩:=(show ∃ t,u=EY x t from r); cases e; rfl
 | byt b=>obtain ⟨t,e⟩:=(show ∃ t,u=G6 b t from r); cases e; rfl
 | flt b=>obtain ⟨t,e⟩:=(show ∃ t,u=Fy b t from r); cases e; rfl
 | ref a=>cases (show u=Aw a from r); rfl
 | ty n=>cases (show u=BX n from r); rfl
section
variable {P:Program} {w:World} {H H':Hp} {h h':Heap} {a C dx:Addr} {fs fs':List (Str×V)}
theorem io (hok:HOk P w H h) (e:H a=some (.ins C dx fs)):∃ mA,ObjM h a dx C mA/\(∀ f,RelO (fs.lookup f) (mA f))/\EZ mA (fs.map (·.1))/\fs.length<=1000/\H dx=some (.own a):=by
 obtain ⟨d,z,ne,ob,mA,n,r,q⟩:=(show ObjOk P w H h a (.ins C dx fs) from hok a _ e)
 exact ⟨mA,⟨ob,n,ne⟩,r,q,z,d⟩
end
structure Cls (K:Ae) (C:Addr):Prop where
 pg:CL K C Hr=true
 hd:Cb K C=true
 po:DS K C=true
 sa:AI K (.ref C) "__setattr__" = some (some (.builtin "object.__setattr__"))
theorem Cls.get {K:Ae} {C:Addr} (c:Cls K C) (f:Str):CL K C f=true:=c.pg
noncomputable def NoAttr (K:Ae) (C:Addr) (f:Str):Prop:=AI K (.ref C) f=some none
theorem NoAttr.taker {K:Ae} {C:Addr} {f:Str} (n:NoAttr K C f):Eg K C f=some none:=by
 unfold Eg
 rw [show AI K (.ref C) f=some none from n]
 rfl
structure Meth (K:Ae) (C:Addr) (m:Str) (f:Addr):Prop where
 at_:AI K (.ref C) m=some (some (.ref f))
 fn:Co K (.ref f)=true
 kp:Bv K (.ref f)=true
section
variable {X:Cx} {pins:List (Addr×Obj)} {σ:St} {H:Hp} {s:Shared} {a C dx:Addr} {fs:List (Str×V)} {f:Str} {v:V} {A:Around} {E:Value->Shared->Prop}
theorem lz {b:Bool} {Q:Value->Shared->Prop} (I:Inv X pins σ H s) (e:H a=some (.ins C dx fs)) (c:Cls X.K C) (n:NoAttr X.K C f) (l:fs.lookup f=some v)
  (h:∀ u s',Inv X pins σ H s'->RelV v u->Q u s'):wpAny (model X.prog X.w) A (getAttr (.ref a) f b) Q E s:=by
 obtain ⟨mA,O,r,_,_,_⟩:=io I.hok e
 obtain ⟨u,hu,ru⟩:=RelO.some_of (v:=v) (o:=mA f) (by rw [<-l]; exact r f)
 exact si I.kIn O (c.get f) c.hd n hu (jc ru) (h u _ (I.tok _) ru)
theorem h8 {m:Str} {g:Addr} {pl:Sem Bool} {Q:Value×List Value->Shared->Prop} (I:Inv X pins σ H s) (e:H a=some (.ins C dx fs)) (c:Cls X.K C) (k:Meth X.K C m g) (l:fs.lookup m=none)
  (h:Q (.ref g,[.ref a]) s):wpAny (model X.prog X.w) A (getMethod (.ref a) m pl) Q E s:=by
 obtain ⟨mA,O,r,_,_,_⟩:=io I.hok e
 have hn:mA m=none:=RelO.none_of (by rw [<-l]; exact r m)
 exact pF I.kIn O (c.get m) k.at_ k.fn hn h
theorem lA {y:V} {u:Value} {Q:Unit->Shared->Prop} (I:Inv X pins σ H s) (e:H a=some (.ins C dx fs)) (c:Cls X.K C) (n:NoAttr X.K C f) (hl:fs.length<1000) (ry:RelV y u)
  (h:∀ s',Inv X pins σ (upd H a (.ins C dx (c9 f y fs))) s'->Q () s'):wpAny (model X.prog X.w) A (setAttr (.ref a) f u) Q E s:=by
 obtain ⟨mA,O,r,wi,_,ho⟩:=io I.hok e
 have hz:(fs.map (·.1)).length<=sizeLine:=by rw [Af,sizeLine_eq]; lia
 refine sj I.kIn O c.sa c.po n.taker c.hd wi hz λ h' O' sb=>h _ ?_
 have hd:∃ o,h'.get? dx=some o:=let ⟨o,_,_,e',_⟩:=O'.ns; ⟨o,e'⟩
 refine I.write (x:=a) (e:=dx) (by rw [e]; exact AK) (.inr ho) (λ b q hb z=>(sb.2 b hb).trans z) hd ?_
 refine ⟨by rw [aj O.ne]; exact ho,?_,O.ne,O'.obj,_,O'.ns,λ g=>?_,λ g hg=>?_⟩
 ·have:=fY f y fs; lia
 ·show RelO ((c9 f y fs).lookup g) (if g=f then some u else mA g)
  rw [fW]
  by_cases q:g=f
  ·rw [if_pos q,if_pos q]; exact ry
  ·rw [if_neg q,if_neg q]; exact r g
 ·by_cases q:g=f
  ·rw [q]; exact (fX f y fs).1
  ·refine (fX f y fs).2 g (wi g λ z=>hg ?_)
   show (if g=f then some u else mA g)=none
   rw [if_neg q]; exact z
theorem Inv.made (I:Inv X pins σ H s):Inv X pins σ (upd (upd H s.heap.objs.size (.own (s.heap.objs.size+1))) (s.heap.objs.size+1) (.ins C s.heap.objs.size []))
  { s with heap:=(s.heap.push Bt).push (BK C s.heap.objs.size) }:=by
 have e1:(s.heap.push Bt).get? s.heap.objs.size=some Bt:=AW s.heap rfl
 have e2:((s.heap.push Bt).push (BK C s.heap.objs.size)).get? (s.heap.objs.size+1)=some (BK C s.heap.objs.size):=by
  have:=AW (s.heap.push Bt) (o:=BK C s.heap.objs.size) rfl
  rwa [CF] at this
 have e3:(s.heap.push Bt).Ns s.heap.objs.size (λ _=>none):=⟨Bt,#[],_,e1,rfl,(λ e he=>absurd he (by simp)),λ _=>rfl⟩
 have I1:=I.laid (a:=s.heap.objs.size) (o:=.own (s.heap.objs.size+1)) (h':=s.heap.push Bt) (t':=s.toks) (λ b u q=>Aj _ q) (Ai _) ⟨_,e1⟩
 refine I1.laid (a:=s.heap.objs.size+1) (o:=.ins C s.heap.objs.size []) (t':=s.toks) (λ b u q=>Aj _ q) (Cp (CF _ _)) ?_
 have ne:s.heap.objs.size≠s.heap.objs.size+1:=AB (D5 _)
 refine ⟨by rw [aj ne,aa],AC _,ne,e2,λ _=>none,(Fe e3).at λ o q=>Aj _ q,λ _=>AK,λ y hy=>absurd rfl hy⟩
theorem mE {prog:Program} {w:World} {env:Env} {e:Expr} {f:Str} {pos:Pos} {s:Shared} {Q:Value->Shared->Prop} (hb:attributeBase e f env (eval e env)=eval e env)
  (h:wpAny (model prog w) A (eval e env) (λ o s₁=>wpAny (model prog w) A (getAttr o f true) Q E s₁) E s):wpAny (model prog w) A (eval (.Attribute e f pos) env) Q E s:=
 Attribute_any_ h (by rw [arm_eval_Attribute,hb])
end
noncomputable def xD (K:Ae) (ta:TE) (f:Str):TE:=λ σ H Q=>ta σ H λ x H1=>∃ a C dx fs v,x=.ref a/\H1 a=some (.ins C dx fs)/\Cls K C/\NoAttr K C f/\fs.lookup f=some v/\Q v H1
noncomputable def xE (K:Ae) (ta tv:TE) (f:Str):TS:=λ D σ H=>tv σ H λ y H1=>ta σ H1 λ x H2=>∃ a C dx fs,x=.ref a/\H2 a=some (.ins C dx fs)/\Cls K C/\NoAttr K C f/\fs.length<1000/\
 D.nx σ (upd H2 a (.ins C dx (c9 f y fs)))
section
variable {X:Cx} {o e value:Expr} {f:Str} {pos pos' tpos:Pos} {ta tv:TE}
theorem vh (he:PE X e ta) (hb:attributeBase e f X.env (eval e X.env)=eval e X.env):PE X (.Attribute e f pos) (xD X.K ta f):=by
 intro pins s σ H Q I h
 refine mE hb (thn (he pins s σ H _ I h) λ u s1 ⟨x,H1,I1,rx,a,C,dx,fs,v,ex,ea,c,n,l,q⟩=>?_)
 subst ex
 obtain rfl:u=Aw a:=rx
 exact lz I1 ea c n l λ u' s2 I2 ru=>⟨v,H1,I2,ru,q⟩
theorem vi (ha:PE X o ta) (hv:PE X value tv) (hs:swapsWith value (some (.Attribute o f pos')) pos.line X.env=pure false):PS X (.Assign [.Attribute o f pos'] value pos) (xE X.K ta tv f):=by
 intro pins s σ H D I h
 refine plainObj_wpAny_Assign_Attribute (thn (hv pins s σ H _ I h) λ u s1 ⟨y,H1,I1,ry,q⟩=>thn (ha pins s1 σ H1 _ I1 q) λ ov s2 ⟨x,H2,I2,rx,a,C,dx,fs,ex,ea,c,n,l,q2⟩=>?_) hs
 subst ex
 obtain rfl:ov=Aw a:=rx
 exact lA I2 ea c n l ry λ s3 I3=>⟨σ,_,I3,q2⟩
end
section
variable {X:Cx} {pins:List (Addr×Obj)} {σ:St} {H:Hp} {s:Shared} {A:Around} {E:Value->Shared->Prop} {Q:Value->Shared->Prop} {c:Value} {b:Bool}
inductive TyOf (K:Ae) (H:Hp):V->Value->Prop where
 | non:TyOf K H .non (.type "NoneType")
 | bl (x:Bool):TyOf K H (.bl x) (.type "bool")
 | int (i:Int):TyOf K H (.int i) (.type "int")
 | str (x:Str):TyOf K H (.str x) (.type "str")
 | flt (x:UInt64):TyOf K H (.flt x) (.type "float")
 | lst {a:Addr} {xs:List V} (e:H a=some (.lst xs)):TyOf K H (.ref a) (.type "list")
 | frz {a:Addr} {o:Obj} {xs:List V} (e:H a=some (.frz o (.lst xs))):TyOf K H (.ref a) (.type "list")
 | tup {a:Addr} {xs:List V} (e:H a=some (.tup xs)):TyOf K H (.ref a) (.type "tuple")
 | dK {a:Addr} {kvs:List (Key×V)} (e:H a=some (.dK kvs)):TyOf K H (.ref a) (.type "dict")
 | dT {a:Addr} {kvs:List (List Key×V)} (e:H a=some (.dT kvs)):TyOf K H (.ref a) (.type "dict")
 | ins {a C dx:Addr} {fs:List (Str×V)} (e:H a=some (.ins C dx fs)) (cl:Cls K C) (ha:AI K (.ref C) "__class__" = some (some (.builtin "object.__class__")))
   (hn:PySem.W.specialIn K (.builtin "object.__class__") "__get__" = some (some (.builtin "getset_descriptor.__get__"))) (htk:PySem.W.takesIn K (.builtin "object.__class__")=some true)
   (hm:De K C (.type "object")=some true):TyOf K H (.ref a) (.ref C)
theorem mF {x:V} {u t:Value} (I:Inv X pins σ H s) (rx:RelV x u) (ty:TyOf X.K H x t) (e:BH X.K t c=some b) (h:∀ tk,Q (.bool b) { s with toks:=tk }) :
  wpAny (model X.prog X.w) A (call (.builtin "isinstance") [u,c]) Q E s:=by
 cases ty with
 | non=>cases (show u=AT from rx); exact Bx PySem.W.kitx_none I.kIn AK e (λ z=>nomatch z) h
 | bl y=>cases (show u=C3 y from rx); exact Bx PySem.W.kitx_bool I.kIn AK e (λ z=>nomatch z) h
 | int i=>obtain ⟨t,q⟩:=(show ∃ t,u=Ef i t from rx); cases q; exact Bx PySem.W.kitx_int I.kIn AK e (λ z=>nomatch z) h
 | str y=>obtain ⟨t,q⟩:=(show ∃ t,u=EY y t from rx); cases q; exact Bx PySem.W.kitx_str I.kIn AK e (λ z=>nomatch z) h
 | flt y=>obtain ⟨t,q⟩:=(show ∃ t,u=Fy y t from rx); cases q; exact Bx PySem.W.kitx_float I.kIn AK e (λ z=>nomatch z) h
 | @lst a xs ea=>
  cases (show u=Aw a from rx)
  obtain ⟨_,_,n,_,h1⟩:=(show ObjOk X.prog X.w H s.heap a (.lst xs) from I.hok a _ ea)
  exact Bx Ff I.kIn ⟨_,h1,rfl⟩ e (λ z=>nomatch z) h
 | @frz a ob xs ea=>
  cases (show u=Aw a from rx)
  obtain ⟨_,_,_,n,_,h1⟩:=(show ObjOk X.prog X.w H s.heap a (.frz ob (.lst xs)) from I.hok a _ ea)
  exact Bx Ff I.kIn ⟨_,h1,rfl⟩ e (λ z=>nomatch z) h
 | @tup a xs ea=>
  cases (show u=Aw a from rx)
  obtain ⟨_,_,_,p⟩:=(show ObjOk X.prog X.w H s.heap a (.tup xs) from I.hok a _ ea)
  obtain ⟨o,h1,h2,_⟩:=p
  exact Bx PySem.W.kitx_tuple I.kIn ⟨o,h1,h2⟩ e (λ z=>nomatch z) h
 | @dK a kvs ea=>
  cases (show u=Aw a from rx)
  obtain ⟨_,_,vs,_,p⟩:=(show ObjOk X.prog X.w H s.heap a (.dK kvs) from I.hok a _ ea)
  obtain ⟨o,es,ep,h1,h2,_⟩:=p
  exact Bx Fg I.kIn ⟨o,h1,h2.1⟩ e (λ z=>nomatch z) h
 | @dT a kvs ea=>
  cases (show u=Aw a from rx)
  obtain ⟨_,_,xs,_,o,es,ep,h1,h2,_⟩:=(show ObjOk X.prog X.w H s.heap a (.dT kvs) from I.hok a _ ea)
  exact Bx Fg I.kIn ⟨o,h1,h2.1⟩ e (λ z=>nomatch z) h
 | @ins a C dx fs ea cl ha hn htk hm=>
  cases (show u=Aw a from rx)
  obtain ⟨mA,O,_⟩:=io I.hok ea
  obtain ⟨od,J,_⟩:=O.look
  exact Bx (PySem.W.kitx_own (cl.get _) cl.hd ha hn htk hm) I.kIn J e (λ z=>nomatch z) h
end
structure Room (k:Nat) (A:Around):Prop where
 hd:A.handled=none
 dp:A.depth+3*k+5<recursionLimit
 un:A.units+16*k+200<cLine
 gd:A.guards=some []
theorem Room.mono {j k:Nat} {A:Around} (r:Room k A) (h:j<=k):Room j A:=⟨r.hd,by have:=r.dp; lia,by have:=r.un; lia,r.gd⟩
theorem Room.deeper {k:Nat} {A:Around} (r:Room (k+1) A) (env:Env):Room k (A.deeper env):=
 ⟨r.hd,by have:=r.dp; show A.depth+1+3*k+5<_; lia,by have:=r.un; show A.units+3+16*k+200<_; lia,r.gd⟩
theorem lB {A:Around} {C:Addr} {us:List Value} {kw:List (Str×Value)}:(A.under (.builtin "type.__call__" ⟨.ref C::us,kw⟩)).depth=A.depth+1:=by
 first | rfl | simp [D6,Code.weight,Code.isCreation,GW,Code.isCaller,G7,E3,guardIds]
theorem lC {A:Around} {C:Addr} {us:List Value} {kw:List (Str×Value)}:(A.under (.builtin "type.__call__" ⟨.ref C::us,kw⟩)).units=A.units+1:=by
 first | rfl | simp [D6,Code.cUnits,G7,E3]
theorem Room.make {k:Nat} {A:Around} (r:Room (k+1) A) (C:Addr) (us:List Value) (kw:List (Str×Value)):Room k (A.under (.builtin "type.__call__" ⟨.ref C::us,kw⟩)):=
 ⟨r.hd,by have:=r.dp; rw [lB]; lia,by have:=r.un; rw [lC]; lia,by first | exact r.gd | (simp [D6,Code.guards,GW,guardIds,pushGuards,r.gd])⟩
theorem Room.depth {k:Nat} {A:Around} (r:Room k A):A.depth<recursionLimit:=by have:=r.dp; lia
theorem Room.units {k:Nat} {A:Around} (r:Room k A):A.units+64<cLine:=by have:=r.un; lia
theorem Room.units0 {k:Nat} {A:Around} (r:Room k A):A.units<cLine:=by have:=r.un; lia
noncomputable def uE:TA:=λ _ H Q=>Q [] H
noncomputable def lD (ta:TE) (tr:TA):TA:=λ σ H Q=>ta σ H λ x H1=>tr σ H1 λ xs H2=>Q (x::xs) H2
section
variable {X:Cx} {e:Expr} {es:List Expr} {te:TE} {t:TA} {pos:Pos}
theorem vj:PA X [] uE:=λ _ _ _ _ H Q I h=>Calls.spliced_nil ⟨[],H,I,.nil,h⟩
theorem sk (ha:PE X e te) (hr:PA X es t) (hs:starEach (e::es) X.env=(false,eval e X.env)::starEach es X.env:=by rfl):PA X (e::es) (lD te t):=by
 intro pos pins s σ H Q I h
 rw [hs]
 show wpAny _ _ (spliced ((false,eval e X.env)::backTo pos (starEach es X.env))) _ _ s
 refine Calls.spliced_cons (thn (ha pins s σ H _ I h) λ u s1 ⟨x,H1,I1,r1,q1⟩=>?_)
 exact thn (hr pos pins s1 σ H1 _ I1 q1) λ us s2 ⟨xs,H2,I2,r2,q2⟩=>⟨x::xs,H2,I2,.cons r1 r2,q2⟩
noncomputable def xF (t:TA):TE:=λ σ H Q=>t σ H λ xs H1=>xs.length<=sizeLine/\∀ p,H1 p=none->Q (.ref p) (upd H1 p (.tup xs))
noncomputable def xG (t:TA):TE:=λ σ H Q=>t σ H λ xs H1=>xs.length<=sizeLine/\∀ p,H1 p=none->Q (.ref p) (upd H1 p (.lst xs))
theorem vk {x1} (h:PA X es t):PE X (.Tuple es x1 pos) (xF t):=by
 intro pins s σ H Q I hq
 refine wpAny_Tuple_spliced (thn (h pos pins s σ H _ I hq) λ us s1 ⟨xs,H1,I1,r,z,q⟩=>⟨by rw [<-r.length]; exact z,?_⟩)
 have hf:H1 s1.heap.objs.size=none:=I1.hok.fresh (Ai _)
 refine ⟨.ref s1.heap.objs.size,upd H1 s1.heap.objs.size (.tup xs),I1.laid (t':=s1.toks) (λ b u e=>Aj _ e) (Ai _) ?_,rfl,q _ hf⟩
 exact ⟨z,us,r,⟨_,AW _ rfl,rfl,_,rfl⟩⟩
theorem vm (h:PA X es t):PE X (.List es pos) (xG t):=by
 intro pins s σ H Q I hq
 refine wpAny_List_spliced (thn (h pos pins s σ H _ I hq) λ us s1 ⟨xs,H1,I1,r,z,q⟩=>⟨by rw [<-r.length]; exact z,?_⟩)
 have hf:H1 s1.heap.objs.size=none:=I1.hok.fresh (Ai _)
 refine ⟨.ref s1.heap.objs.size,upd H1 s1.heap.objs.size (.lst xs),I1.laid (t':=s1.toks) (λ b u e=>Aj _ e) (Ai _) ?_,rfl,q _ hf⟩
 exact ⟨z,us,0,r,AW _ rfl⟩
end
noncomputable abbrev Sp:=List V->Hp->VK->XK->Prop
noncomputable abbrev CXT:=List Env->Hp->Shared->XK->Value->Shared->Prop
structure Env0 (P:Program) (w:World) (K:Ae) (mg:Str->Option Value) (base:Heap) (A:Around) (outer:List Env) (s:Shared) (H:Hp):Prop where
 frames:A.frames=some outer
 mod:Mod K mg base
 bs:∀ b o,base.get? b=some o->s.heap.get? b=some o/\H b=none
 bsz:base.objs.size<=s.heap.objs.size
 funs:s.heap.FunFrames base outer
 frf:∀ b∈frs outer,H b=none
 hok:HOk P w H s.heap
 bare:AllBare s.gens
noncomputable def CE (outer:List Env) (P:Program) (w:World) (H:Hp) (s:Shared) (Q:VK) (u:Value) (s':Shared):Prop:=
 ∃ v H',s'.os=s.os/\AllBare s'.gens/\Un (frs outer) [] H H' s.heap s'.heap/\HOk P w H' s'.heap/\RelV v u/\Q v H'
noncomputable def CR (CX:CXT) (outer:List Env) (P:Program) (w:World) (H:Hp) (s:Shared) (Q:VK) (E:XK) (r:Result) (s':Shared):Prop:=
 match r with
 | .ok (.ret u)=>CE outer P w H s Q u s'
 | .ok _=>False
 | .error e=>CX outer H s E e s'
structure FnOk (P:Program) (w:World) (K:Ae) (mg:Str->Option Value) (base:Heap) (CX:CXT) (k:Nat) (f:Addr) (fd:FuncData) (ps:List Str) (sp:Sp):Prop where
 len:∀ vs H Q E,sp vs H Q E->vs.length=ps.length
 run:∀ (A:Around) (outer:List Env) (s:Shared) (H:Hp) (args:Args) (us:List Value) (vs:List V) (Q:VK) (E:XK),Room k A->Env0 P w K mg base A outer s H->BindsTo s fd args (ps.zip us)->Vals vs us->sp vs H Q E->
  codeAny (model P w) A (.call (.ref f) args) (CR CX outer P w H s Q E) s
theorem Env0.make {P:Program} {w:World} {K:Ae} {mg:Str->Option Value} {base:Heap} {A:Around} {outer:List Env} {s:Shared} {H:Hp} (e:Env0 P w K mg base A outer s H) (C:Addr) (us:List Value) (kw:List (Str×Value)) :
  Env0 P w K mg base (A.under (.builtin "type.__call__" ⟨.ref C::us,kw⟩)) outer s H:=⟨by first | exact e.frames | (simpa [D6,Code.envs,E3,pushEnvs] using e.frames),e.mod,e.bs,e.bsz,e.funs,e.frf,e.hok,e.bare⟩
section
variable {X:Cx} {pins:List (Addr×Obj)} {σ:St} {H:Hp} {s s':Shared}
theorem Inv.env0 (I:Inv X pins σ H s):Env0 X.prog X.w X.K X.mg X.base X.A X.stack s H:=
 ⟨I.ok.frames,I.ok.mod,I.bs,Bg I.ok.bsz I.sz,I.stack,I.stkFree,I.hok,I.bare⟩
theorem Inv.after {Q:VK} {u:Value} (I:Inv X pins σ H s) (h:CE X.stack X.prog X.w H s Q u s'):EP X pins σ Q u s':=by
 obtain ⟨v,H',os,bare,un,hok,r,q⟩:=h
 obtain ⟨hh,g,d,t,os'⟩:=s'
 obtain rfl:os'=s.os:=os
 exact ⟨v,H',I.call (h':=hh) (g':=g) (d':=d) (t':=t) (ch:=[]) un hok bare (λ b z=>absurd z (by simp)),r,q⟩
end
noncomputable def pG (sp:Sp) (dvs:List V) (E:XK) (t:TA):TE:=λ σ H Q=>t σ H λ vs H1=>sp (vs++dvs) H1 Q E
noncomputable def mG (C:Addr) (m:Str) (sp:Sp) (dvs:List V) (E:XK) (ta:TE) (t:TA):TE:=λ σ H Q=>ta σ H λ x H1=>∃ a dx fs,x=.ref a/\H1 a=some (.ins C dx fs)/\fs.lookup m=none/\
 t σ H1 λ vs H2=>sp (x::(vs++dvs)) H2 Q E
noncomputable def sq (C:Addr) (sp:Sp) (dvs:List V) (E:XK) (t:TA):TE:=λ σ H Q=>t σ H λ vs H1=>∀ x dx,H1 x=none->H1 dx=none->dx≠x->
 sp (.ref x::(vs++dvs)) (upd (upd H1 dx (.own x)) x (.ins C dx [])) (λ v H2=>v=.non/\Q (.ref x) H2) E
noncomputable def Binds (K:Ae) (fd:FuncData) (ps:List Str) (ds:List Value):Prop:=
 ∀ (s:Shared) (us:List Value),K.In s.heap->(us++ds).length=ps.length->BindsTo s fd ⟨us,[]⟩ (ps.zip (us++ds))
theorem Binds.all {K:Ae} {fd:FuncData} {ps:List Str} (h:∀ us:List Value,us.length=ps.length->bindArgs fd ⟨us,[]⟩=pure (ps.zip us)):Binds K fd ps []:=λ s us _ hl=>by
 rw [B8] at hl ⊢
 exact .of_eq (h us hl)
noncomputable def dE (CX:CXT) (X:Cx) (E:XK):Prop:=∀ (pins:List (Addr×Obj)) (σ:St) (H:Hp) (s:Shared) (e:Value) (s':Shared),Inv X pins σ H s->CX X.stack H s E e s'->X.xe e s'
section
variable {X:Cx} {CX:CXT} {k:Nat} {f C:Addr} {fd:FuncData} {ps:List Str} {sp:Sp} {dvs:List V} {ds:List Value} {E:XK} {x m:Str} {p pos apos:Pos} {e o:Expr} {es:List Expr} {ta:TE} {t:TA}
theorem mH {pins:List (Addr×Obj)} {σ:St} {H:Hp} {s:Shared} {Q:VK} {us:List Value} {vs:List V} (F:FnOk X.prog X.w X.K X.mg X.base CX k f fd ps sp) (hr:Room k X.A) (hb:Binds X.K fd ps ds) (hd:Vals dvs ds) (hx:dE CX X E)
  (I:Inv X pins σ H s) (r:Vals vs us) (h:sp (vs++dvs) H Q E):wpAny (model X.prog X.w) X.A (call (.ref f) us) (EP X pins σ Q) X.xe s:=by
 have r2:Vals (vs++dvs) (us++ds):=r.append hd
 have hl:(us++ds).length=ps.length:=by rw [<-r2.length]; exact F.len _ _ _ _ h
 refine wpAny_call (codeAny_mono (F.run X.A X.stack s H ⟨us,[]⟩ (us++ds) (vs++dvs) Q E hr I.env0 (hb s us I.kIn hl) r2 h) λ r s' hq=>?_)
 cases r with
 | error e=>exact hx pins σ H s e s' I hq
 | ok fl=>
  cases fl with
  | ret u=>exact I.after hq
  | next=>exact A7 hq
  | brk=>exact A7 hq
  | cont=>exact A7 hq
theorem sr (F:FnOk X.prog X.w X.K X.mg X.base CX k f fd ps sp) (hr:Room k X.A) (hg:Gl X x) (hm:X.mg x=some (.ref f)) (hk:Bv X.K (.ref f)=true) (hb:Binds X.K fd ps ds) (hd:Vals dvs ds) (hx:dE CX X E)
  (ha:PA X (e::es) t) (hdb:(x == ("__debug__" : Str))=false:=by decide) (he:starEach (e::es) X.env=(false,eval e X.env)::starEach es X.env:=by rfl) (hpl:(backTo pos (starEach es X.env)).any (·.1)=false:=by rfl) :
  PE X (.Call (.Name x p) (e::es) [] pos) (pG sp dvs E t):=by
 intro pins s σ H Q I h
 refine wpAny_Call_Name_kw (dL I hg hm ?_ hdb)
 refine B6 (h₀:=X.base) I.ok.mod.kin hk (thn (ha pos pins s σ H _ I h) λ us s1 ⟨vs,H1,I1,r,q⟩=>⟨I1.kIn,?_⟩) he hpl
 exact mH F hr hb hd hx I1 r q
theorem ss {pl:Sem Bool} (he:PE X o ta) (c:Cls X.K C) (hm:Meth X.K C m f) (F:FnOk X.prog X.w X.K X.mg X.base CX k f fd ps sp) (hr:Room k X.A) (hb:Binds X.K fd ps ds) (hd:Vals dvs ds) (hx:dE CX X E) (ha:PA X (e::es) t)
  (hst:starEach (e::es) X.env=(false,eval e X.env)::starEach es X.env:=by rfl) (hpl:(backTo pos (starEach es X.env)).any (·.1)=false:=by rfl)
  (ht:eval (.Call (.Attribute o m apos) (e::es) [] pos) X.env=(do
   let ov <-eval o X.env
   standAt apos.atName
   let (f,first) <-holding [ov] (getMethod ov m pl)
   callWith pos f first (backTo pos (starEach (e::es) X.env)) (backToKw pos (keywordEach [] X.env))):=by rfl) :
  PE X (.Call (.Attribute o m apos) (e::es) [] pos) (mG C m sp dvs E ta t):=by
 intro pins s σ H Q I h
 refine Dj (pl:=pl) (thn (he pins s σ H _ I h) λ u s1 ⟨x,H1,I1,rx,a,dx,fs,ex,ea,l,q⟩=>?_) ht
 subst ex
 obtain rfl:u=Aw a:=rx
 refine h8 I1 ea c hm l ?_
 refine B6 (first:=[.ref a]) (h₀:=X.base) I.ok.mod.kin hm.kp (thn (ha pos pins s1 σ H1 _ I1 q) λ us s2 ⟨vs,H2,I2,r,q2⟩=>⟨I2.kIn,?_⟩) hst hpl
 exact mH (us:=.ref a::us) (vs:=.ref a::vs) F hr hb hd hx I2 (.cons rfl r) q2
theorem pH {pl:Sem Bool} (he:PE X o ta) (c:Cls X.K C) (hm:Meth X.K C m f) (F:FnOk X.prog X.w X.K X.mg X.base CX k f fd ps sp) (hr:Room k X.A) (hb:Binds X.K fd ps ds) (hd:Vals dvs ds) (hx:dE CX X E)
  (ht:eval (.Call (.Attribute o m apos) [] [] pos) X.env=(do
   let ov <-eval o X.env
   standAt apos.atName
   let (f,first) <-holding [ov] (getMethod ov m pl)
   callWith pos f first (backTo pos (starEach [] X.env)) (backToKw pos (keywordEach [] X.env))):=by rfl) :
  PE X (.Call (.Attribute o m apos) [] [] pos) (mG C m sp dvs E ta uE):=by
 intro pins s σ H Q I h
 refine Dj (pl:=pl) (thn (he pins s σ H _ I h) λ u s1 ⟨x,H1,I1,rx,a,dx,fs,ex,ea,l,q⟩=>?_) ht
 subst ex
 obtain rfl:u=Aw a:=rx
 refine h8 I1 ea c hm l ?_
 exact PySem.W.callWith_K0 (first:=[.ref a]) I1.kIn hm.kp (mH (us:=[.ref a]) (vs:=[.ref a]) F hr hb hd hx I1 (.cons rfl .nil) q)
structure Mk (K:Ae) (C f:Addr):Prop where
 makes:Eh K C=true
 init:AI K (.ref C) "__init__" = some (some (.ref f))
 fn:Co K (.ref f)=true
 kp:Bv K (.ref C)=true
theorem pI {pins:List (Addr×Obj)} {σ:St} {H:Hp} {s:Shared} {Q:VK} {us:List Value} {vs:List V} (M:Mk X.K C f) (F:FnOk X.prog X.w X.K X.mg X.base CX k f fd ps sp) (hr:Room (k+1) X.A) (hb:Binds X.K fd ps ds) (hd:Vals dvs ds)
  (hx:dE CX X E) (I:Inv X pins σ H s) (r:Vals vs us)
  (h:∀ x dx,H x=none->H dx=none->dx≠x->sp (.ref x::(vs++dvs)) (upd (upd H dx (.own x)) x (.ins C dx [])) (λ v H2=>v=.non/\Q (.ref x) H2) E) :
  wpAny (model X.prog X.w) X.A (call (.ref C) us) (EP X pins σ Q) X.xe s:=by
 have hq:=h (s.heap.objs.size+1) s.heap.objs.size (I.hok.fresh (BO _)) (I.hok.fresh (Ai _)) (AB (D5 _))
 have I2:=Inv.made (C:=C) I
 have r2:Vals (V.ref (s.heap.objs.size+1)::(vs++dvs)) (Aw (s.heap.objs.size+1)::(us++ds)):=.cons rfl (r.append hd)
 have hl:(Aw (s.heap.objs.size+1)::us++ds).length=ps.length:=by
  have e:=r2.length
  rw [F.len _ _ _ _ hq] at e
  exact e.symm
 refine wpAny_call (kq (f:=f) I.kIn M.makes M.init (beq_iff_eq.mp M.fn) (codeAny_mono (F.run _ X.stack _ _ ⟨Aw (s.heap.objs.size+1)::us,[]⟩ (Aw (s.heap.objs.size+1)::(us++ds)) _ _ E (hr.make C us [])
  (I2.env0.make C us []) (hb _ (Aw (s.heap.objs.size+1)::us) I2.kIn hl) r2 hq) λ r s' hq'=>?_))
 cases r with
 | error e=>exact hx pins σ _ _ e s' I2 hq'
 | ok fl=>
  cases fl with
  | ret u=>
   obtain ⟨v,H',I3,rv,ev,q3⟩:=I2.after hq'
   subst ev
   exact ⟨rv,⟨V.ref (s.heap.objs.size+1),H',I3,rfl,q3⟩⟩
  | next=>exact A7 hq'
  | brk=>exact A7 hq'
  | cont=>exact A7 hq'
theorem su (M:Mk X.K C f) (F:FnOk X.prog X.w X.K X.mg X.base CX k f fd ps sp) (hr:Room (k+1) X.A) (hg:Gl X x) (hm:X.mg x=some (.ref C)) (hb:Binds X.K fd ps ds) (hd:Vals dvs ds) (hx:dE CX X E)
  (ha:PA X (e::es) t) (hdb:(x == ("__debug__" : Str))=false:=by decide) (he:starEach (e::es) X.env=(false,eval e X.env)::starEach es X.env:=by rfl) (hpl:(backTo pos (starEach es X.env)).any (·.1)=false:=by rfl) :
  PE X (.Call (.Name x p) (e::es) [] pos) (sq C sp dvs E t):=by
 intro pins s σ H Q I h
 refine wpAny_Call_Name_kw (dL I hg hm ?_ hdb)
 refine B6 (h₀:=X.base) I.ok.mod.kin M.kp (thn (ha pos pins s σ H _ I h) λ us s1 ⟨vs,H1,I1,r,q⟩=>⟨I1.kIn,?_⟩) he hpl
 exact pI M F hr hb hd hx I1 r q
end
section
variable {X:Cx} {CX:CXT} {k:Nat} {f C:Addr} {fd:FuncData} {ps ks:List Str} {sp:Sp} {E:XK} {x m:Str} {p pos apos kpos:Pos} {e o:Expr} {es:List Expr} {kws:List Keyword} {te ta:TE} {t tk:TA} {nm:Option Str}
variable {g:List Value->List Value->List Value} {gV:List V->List V->List V}
end
structure FnScope (N P:List Str) (sc:Scope):Prop where
 kind:sc.kind=.function
 co:sc.isCoroutine=false
 gen:sc.isGenerator=false
 nd:N.Nodup
 pre:N.take P.length=P
 par:∀ x∈P,sc.names.lookup x=some .local\/sc.names.lookup x=some .cell
 nofree:∀ y∈sc.names,y.2≠.free
theorem jd {kindOf:Str->Option NameKind} {x:Str}:∀ {binds:List (Str×Value)} {m:Str->Option Value},(∀ v,(x,v)∉binds)->bindL kindOf binds m x=m x
 | [],_,_=>rfl
 | (n,v)::r,m,h=>by
  unfold bindL
  rw [jd λ w hw=>h w (AG _ hw)]
  split
  ·have:x≠n:=by rintro rfl; exact h v A1
   simp [this]
  ·rfl
theorem je {kindOf:Str->Option NameKind} {x:Str}:∀ {binds:List (Str×Value)} {m:Str->Option Value},(∀ v,(x,v)∉binds)->bindC kindOf binds m x=m x
 | [],_,_=>rfl
 | (n,v)::r,m,h=>by
  unfold bindC
  rw [je λ w hw=>h w (AG _ hw)]
  split
  ·rfl
  ·have:x≠n:=by rintro rfl; exact h v A1
   simp [this]
theorem jf {kindOf:Str->Option NameKind} {x:Str} {v:Value}:∀ {P:List Str} {vs:List Value} {i:Nat} {m:Str->Option Value},P.Nodup->P[i]? = some x->vs[i]? = some v->kindOf x=some .local->
  bindL kindOf (P.zip vs) m x=some v
 | [],_,_,_,_,h,_,_=>by simp at h
 | _::_,[],_,_,_,_,h,_=>by simp at h
 | p::P,w::vs,0,m,nd,h1,h2,hk=>by
  simp at h1 h2; subst h1; subst h2
  show bindL kindOf ((p,w)::P.zip vs) m p=_
  unfold bindL
  rw [jd λ v hv=>(Do.mp nd).1 (Ei hv).1,if_pos hk]
  simp
 | p::P,w::vs,i+1,m,nd,h1,h2,hk=>by
  show bindL kindOf ((p,w)::P.zip vs) m x=_
  unfold bindL
  exact jf (i:=i) (Do.mp nd).2 (by simpa using h1) (by simpa using h2) hk
theorem jg {kindOf:Str->Option NameKind} {x:Str} {v:Value}:∀ {P:List Str} {vs:List Value} {i:Nat} {m:Str->Option Value},P.Nodup->P[i]? = some x->vs[i]? = some v->kindOf x≠some .local->
  bindC kindOf (P.zip vs) m x=some v
 | [],_,_,_,_,h,_,_=>by simp at h
 | _::_,[],_,_,_,_,h,_=>by simp at h
 | p::P,w::vs,0,m,nd,h1,h2,hk=>by
  simp at h1 h2; subst h1; subst h2
  show bindC kindOf ((p,w)::P.zip vs) m p=_
  unfold bindC
  rw [je λ v hv=>(Do.mp nd).1 (Ei hv).1,if_neg hk]
  simp
 | p::P,w::vs,i+1,m,nd,h1,h2,hk=>by
  show bindC kindOf ((p,w)::P.zip vs) m x=_
  unfold bindC
  exact jg (i:=i) (Do.mp nd).2 (by simpa using h1) (by simpa using h2) hk
noncomputable def bc (N:List Str) (vs:List V):St:=vs.map some++Ap (N.length - vs.length) none
noncomputable def gP (CX:CXT) (P:Program) (w:World) (K:Ae) (mg:Str->Option Value) (base:Heap) (N:List Str) (qual:Str) (scope:Scope) (f:Addr) (cd:Value) (A:Around) (outer:List Env) (s:Shared) (H:Hp) (E:XK):Cx where
 prog:=P
 w:=w
 K:=K
 mg:=mg
 base:=base
 A:=A.deeper (envOfC qual scope s.heap.objs.size f cd)
 N:=N
 s₀:=s
 H₀:=H
 env:=envOfC qual scope s.heap.objs.size f cd
 outer:=outer
 stack:=envOfC qual scope s.heap.objs.size f cd::outer
 ex:=[]
 calm:=true
 fn:=λ _=>true
 pn:=[]
 xe:=λ e s'=>wpAny (model P w) (A.deeper (envOfC qual scope s.heap.objs.size f cd)) (leaving (envOfC qual scope s.heap.objs.size f cd) e) (λ _ s''=>CX outer H s E e s'') (λ e' s''=>CX outer H s E e' s'') s'
theorem kr {sc:Scope} {n:Nat} {x:Str} (h:sc.names.lookup x=some .cell):∃ c,(cellsFrom n sc.names []).lookup x=some c:=by
 have q:=Em sc.names n [] (.inl h)
 exact CV.mp q
theorem mI {CX:CXT} {P:Program} {w:World} {K:Ae} {mg:Str->Option Value} {base:Heap} {N ps:List Str} {qual:Str} {scope:Scope} {f:Addr} {cd:Value} {A:Around} {outer:List Env} {s s1:Shared} {H:Hp} {E:XK} {us:List Value} {vs:List V}
  (S:FnScope N ps scope) (hd:A.handled=none) (e0:Env0 P w K mg base A outer s H) (hl:vs.length=ps.length) (r:Vals vs us)
  (x:InCallC s s.heap.objs.size (bindL (envOfC qual scope s.heap.objs.size f cd).kindOf (ps.zip us) λ _=>none) (cellsFrom (s.heap.objs.size+1) scope.names []) (bindC (envOfC qual scope s.heap.objs.size f cd).kindOf (ps.zip us) λ _=>none) s1) :
  Inv (gP CX P w K mg base N qual scope f cd A outer s H E) [] (bc N vs) H s1:=by
 have hpl:ps.length<=N.length:=by have:=congrArg DC S.pre; rw [A8] at this; lia
 obtain ⟨h1,tk,rfl,hk⟩:=x.done
 have noA:∀ b:Addr,b∉(gP CX P w K mg base N qual scope f cd A outer s H E).ex:=λ b z=>absurd (show b∈([]:List Addr) from z) (by simp)
 refine ⟨⟨e0.mod,S.kind,rfl,rfl,Ai _,λ y z c h1 h2=>?_,λ y hy=>?_,λ y c _ h=>?_,λ _=>hd,Around.frames_deeper e0.frames,.inr ⟨rfl,rfl⟩,λ b z=>absurd z (noA b),e0.bs,e0.bsz,λ b _ _=>noA b,λ b z=>absurd z (noA b),e0.funs,e0.frf⟩,
  rfl,e0.bare,Un.kept hk,⟨_,x.toInCall.ns,λ i y v h1 h2 h3=>?_⟩,λ y c h=>⟨_,x.cell y c h⟩,e0.hok.fresh (Ai _),λ y c h=>?_,λ p hp=>absurd (show p∈([]:List (Addr×Obj)) from hp) (by simp),e0.hok.kept hk,?_⟩
 ·exact name_of_addr x.apart (B4 h1) (B4 h2)
 ·have hy:scope.names.lookup y=some .cell\/scope.names.lookup y=some .free:=hy
  rcases hy with hy | hy
  ·exact kr hy
  ·exact absurd rfl (S.nofree _ (B4 hy))
 ·exact BY (x.above y c (B4 h))
 ·have hi:i<vs.length:=by
   unfold bc at h2
   by_cases hi:i<vs.length
   ·exact hi
   ·rw [AQ (by simpa using hi)] at h2
    rw [C4] at h2
    split at h2<;>cases h2
  have ha:vs[i]? = some v:=by
   unfold bc at h2
   rw [AX (by simpa using hi),Ak] at h2
   cases e:vs[i]? with
   | none=>rw [e] at h2; cases h2
   | some a=>rw [e] at h2; cases h2; rfl
  obtain ⟨u,hu,rv⟩:=r.get ha
  have hp:ps[i]? = some y:=by
   rw [<-S.pre,List.getElem?_take_of_lt (by lia)]; exact h1
  have ndP:ps.Nodup:=by rw [<-S.pre]; exact S.nd.sublist (DT _ _)
  refine ⟨u,rv,?_⟩
  rcases S.par y (Ax hp) with k | k
  ·exact .inl ⟨k,jf ndP hp hu k⟩
  ·obtain ⟨c,e⟩:=kr (n:=s.heap.objs.size+1) k
   refine .inr ⟨.inl k,c,e,?_⟩
   have q:=x.cell y c e
   rw [jg ndP hp hu (by show scope.names.lookup y≠_; rw [k]; decide)] at q
   exact q
 ·exact e0.hok.fresh (BY (x.above y c (B4 h)))
 ·unfold bc
  show _=N.length
  rw [Ay,Af,BR]
  lia
theorem sv {CX:CXT} {P:Program} {w:World} {K:Ae} {mg:Str->Option Value} {base:Heap} {k:Nat} {f:Addr} {name qual:Str} {params:Arguments} {body:List Stmt} {scope:Scope} {dV kV doc pm cdv ct oc:Value} {an od:Option Addr}
  {osl:Array (Option Value)} {N ps:List Str} {sp:Sp} (lk:K.lookup f=some ⟨oc,od,.func (CG name qual params body scope dV kV doc pm an cdv ct),osl⟩) (hcd:Dz K cdv qual=true) (S:FnScope N ps scope)
  (len:∀ vs H Q E,sp vs H Q E->vs.length=ps.length)
  (hbody:∀ (A:Around) (outer:List Env) (s:Shared) (H:Hp) (vs:List V) (Q:VK) (E:XK),Room k (A.deeper (envOfC qual scope s.heap.objs.size f cdv))->sp vs H Q E->
   ∃ t,PSs (gP CX P w K mg base N qual scope f cdv A outer s H E) body t/\t { nx:=λ _ H'=>Q .non H',rt:=Q } (bc N vs) H) :
  FnOk P w K mg base CX (k+1) f (CG name qual params body scope dV kV doc pm an cdv ct) ps sp:=by
 refine ⟨len,λ A outer s H args us vs Q E hr e0 hb r hsp=>?_⟩
 have hl:=len _ _ _ _ hsp
 have KX:K.In s.heap:=e0.mod.kin.keeps λ b o e=>(e0.bs b o e).1
 have lim:s.heap.NoLimit:=e0.mod.nolimit.keeps λ b o e=>(e0.bs b o e).1
 have hkind:∀ y∈ps.zip us,scope.names.lookup y.1=some .local\/(scope.names.lookup y.1=some .cell/\((cellsFrom (s.heap.objs.size+1) scope.names []).lookup y.1).isSome=true):=λ⟨n,v⟩ hy=>by
  rcases S.par n (Ei hy).1 with q | q
  ·exact .inl q
  ·exact .inr ⟨q,Em _ _ _ (.inl q)⟩
 refine codeAny_call_function hr.depth (KX _ _ lk) rfl S.co S.gen rfl (PySem.W.codeRec_of KX hcd) (hb _ _ _ _ ?_)
 refine wpAny_newFunctionEnv_cells S.kind hkind λ env he s1 x=>?_
 subst he
 refine ⟨lim.keeps x.toInCall.keep,codeAny_func ?_⟩
 obtain ⟨t,ht,hq⟩:=hbody A outer s H vs Q E (hr.deeper _) hsp
 have I:Inv (gP CX P w K mg base N qual scope f cdv A outer s H E) [] (bc N vs) H s1:=mI S hr.hd e0 hl r x
 refine wpAny_mono (ht [] s1 (bc N vs) H _ I hq) (λ fl s' hs=>?_) λ e s' hs=>hs
 have fin:∀ {σ':St} {H':Hp} {v:V} {u:Value},Inv (gP CX P w K mg base N qual scope f cdv A outer s H E) [] σ' H' s'->RelV v u->Q v H'->CE outer P w H s Q u s':=
  λ {σ' H' v u} J rv q=>⟨v,H',J.os,J.bare,J.base,J.hok,rv,q⟩
 cases fl with
 | ret u=>
  obtain ⟨v,σ',H',J,rv,q⟩:=hs
  exact fin J rv q
 | next=>
  obtain ⟨σ',H',J,q⟩:=hs
  exact fin (v:=V.non) (u:=AT) J rfl q
 | brk=>
  obtain ⟨_,_,_,q⟩:=hs
  exact A7 q
 | cont=>
  obtain ⟨_,_,_,q⟩:=hs
  exact A7 q
section
variable {X:Cx} {x:Str} {p pos:Pos} {e:Expr} {es:List Expr} {t:TA} {id T:String} {r:List V->Hp->VK->Prop}
noncomputable def tCB (r:List V->Hp->VK->Prop) (t:TA):TE:=λ σ H Q=>t σ H λ vs H1=>r vs H1 Q
theorem pJ (hc:cY X (.builtin id) r) (hg:Gl X x) (hm:X.mg x=none) (hv:bootBuiltins x=some (.builtin id)) (ha:PA X (e::es) t) (hn:x≠"__name__":=by decide) (hdb:(x == ("__debug__" : Str))=false:=by decide)
  (he:starEach (e::es) X.env=(false,eval e X.env)::starEach es X.env:=by rfl) (hpl:(backTo pos (starEach es X.env)).any (·.1)=false:=by rfl):PE X (.Call (.Name x p) (e::es) [] pos) (tCB r t):=by
 intro pins s σ H Q I h
 refine wpAny_Call_Name_kw (fV I hg hm hv ?_ hn hdb)
 exact Dp (thn (ha pos pins s σ H _ I h) λ us s1 ⟨vs,H1,I1,r1,q1⟩=>hc pins s1 σ H1 vs us Q I1 r1 q1) he hpl
theorem mJ (hc:cY X (.type T) r) (hg:Gl X x) (hm:X.mg x=none) (hv:bootBuiltins x=some (.type T)) (ha:PA X (e::es) t) (hn:x≠"__name__":=by decide) (hdb:(x == ("__debug__" : Str))=false:=by decide)
  (he:starEach (e::es) X.env=(false,eval e X.env)::starEach es X.env:=by rfl) (hpl:(backTo pos (starEach es X.env)).any (·.1)=false:=by rfl):PE X (.Call (.Name x p) (e::es) [] pos) (tCB r t):=by
 intro pins s σ H Q I h
 refine wpAny_Call_Name_kw (fV I hg hm hv ?_ hn hdb)
 exact BL (thn (ha pos pins s σ H _ I h) λ us s1 ⟨vs,H1,I1,r1,q1⟩=>hc pins s1 σ H1 vs us Q I1 r1 q1) he hpl
end
end L2
open L2.SqL renaming of→HN
open L2.SqT renaming of→HQ
open L2.V renaming int→HR,ref→HU
open PySem PySem.Spec PyProof.Rows L2
variable {Q:Value->Shared->Prop} {items:Array Value} {l b t a f C q:Addr} {vs us its:List Value} {n j t' k i m:Nat} {xs ys:List V} {σ:L2.St} {pins:List (Addr×Obj)} {h:Heap} {x qual name:Str} {P:Program} {X:Cx} {H1:Hp} {o:HO} {v y:V} {fp ch ps hts ls ts:List Addr} {te to ta:TE} {g:TG} {wi:TI} {pos py:Pos} {elt iter tg:Expr} {tb:TS} {u:Value} {scope:Scope} {s':Shared} {ms ms' r:List Nat} {rss:List (List Nat)}
namespace HT
open PySem PyProof.Rows
noncomputable def aQ:List Int->List Int->Bool
 | [],[]=>false
 | [],_::_=>true
 | _::_,[]=>false
 | x::xs,y::ys=>if x=y then aQ xs ys else decide (x<y)
theorem bb (x y:Int) (xs ys:List Int):aQ (x::xs) (y::ys)=if x=y then aQ xs ys else decide (x<y):=rfl
theorem ip:aQ [] []=false:=rfl
theorem gQ (y:Int) (ys:List Int):aQ [] (y::ys)=true:=rfl
theorem gR (x:Int) (xs:List Int):aQ (x::xs) []=false:=rfl
theorem ir (A:Around) (s:Shared) (a:Int) (t:Tok) (c:Int) (u:Tok):∃ e,SeqAt.EqAt A s (.int a t) (.int c u) e/\(e=true↔a=c):=
 ⟨(a == c),Hs a t c u,by simp⟩
theorem pK (A:Around) (s:Shared) (a:Int) (t:Tok) (c:Int) (u:Tok) (prog:Program) (w:World) (E:Value->Shared->Prop) (Q:Value->Shared->Prop) (h:Q (.bool (decide (a<c))) s) :
  wpAny (model prog w) A (richCompare .Lt (.int a t) (.int c u)) Q E s:=
 (Hj h:wpAny (model prog w) A (compareOp .Lt (.int a t) (.int c u)) Q E s)
section
open PySem.SeqAt
open PySem.AutoSeq1 (wpAny_loadPart')
open PySem.MeetsSeq PySem.MeetsSeq2 PySem.MeetsSeq3
theorem eU (l b:Addr) (items items2:Array Value) (n n2:Nat) (dd dd2:Option Addr) (sl sl2:Array (Option Value)) (ns ms:List Int) (hi:IntsAre items.toList ns) (hj:IntsAre items2.toList ms) :
  Meets (Builtin.«tuple.__lt__» ⟨[.ref l,.ref b],[]⟩)
   (λ _ R s=>s.heap.get? l=some { cls:=.type "tuple",dict:=dd,data:=.seq items n,slots:=sl }/\s.heap.get? b=some { cls:=.type "tuple",dict:=dd2,data:=.seq items2 n2,slots:=sl2 }/\
    R (.ok (.ret (.bool (aQ ns ms)))) s):=
 .of_wp λ prog w A R s h=>by
  obtain ⟨hp,g,d,tk,os⟩:=s; obtain ⟨hl,hb,h⟩:=h
  have f2:=Cq
  have z1:items.size=ns.length:=by rw [<-hi.length]; simp
  have z2:items2.size=ms.length:=by rw [<-hj.length]; simp
  wp_walk using wpAny_loadPart' hl,wpAny_loadPart' hb,wpAny_forIn_list _ (λ rest b s'=>b.1=none/\s'=⟨hp,g,d,tk,os⟩/\∃ (vs ws:List Value) (ns' ms':List Int),rest=vs.zip ws/\
   IntsAre vs ns'/\IntsAre ws ms'/\ns'.length+items2.size=ms'.length+items.size/\R (.ok (.ret (.bool (aQ ns' ms')))) ⟨hp,g,d,tk,os⟩) _
  case turn=>
   rintro ⟨y,x⟩ rest b s' ⟨hb',rfl,vs,ws,ns',ms',hz,hvi,hwi,hlen,hR⟩
   cases hvi with
   | nil=>rw [C7] at hz; cases hz
   | cons a t hvi'=>
    cases hwi with
    | nil=>rw [CW] at hz; cases hz
    | cons c u hwi'=>
     rw [BG] at hz
     injection hz with hyx hrest
     injection hyx with hy hx
     subst hy hx
     rw [bb] at hR
     simp only [Az] at hlen
     obtain ⟨e,he,hiff⟩:=ir A.in1 ⟨hp,g,d,tk,os⟩ a t c u
     refine wpAny_bind (he prog w _ _ ?_)
     cases e with
     | true=>
      rw [if_pos (hiff.mp rfl)] at hR
      wp_walk
      exact ⟨rfl,rfl,_,_,_,_,hrest,hvi',hwi',by lia,hR⟩
     | false=>
      rw [if_neg (λ q=>absurd (hiff.mpr q) Ao)] at hR
      have hri:=pK A.in1 ⟨hp,g,d,tk,os⟩ a t c u prog w
      wp_walk using hri
      exact ⟨_,rfl,by simpa using hR⟩
  case fin=>
   rintro ⟨b1,b2⟩ s' ⟨hb',rfl,vs,ws,ns',ms',hz,hvi,hwi,hlen,hR⟩
   simp only at hb'
   subst hb'
   have hv:aQ ns' ms'=decide (items.size<items2.size):=by
    cases hvi with
    | nil=>
     cases hwi with
     | nil=>
      simp only [A9] at hlen
      rw [ip]
      exact (decide_eq_false (by lia)).symm
     | cons c u hw=>
      simp only [A9,Az] at hlen
      rw [gQ]
      exact (decide_eq_true (by lia)).symm
    | cons a t hv=>
     cases hwi with
     | nil=>
      simp only [A9,Az] at hlen
      rw [gR]
      exact (decide_eq_false (by lia)).symm
     | cons c u hw=>
      rw [BG] at hz
      cases hz
   rw [hv] at hR
   wp_walk
   exact ⟨_,rfl,by simpa [BW] using hR⟩
  case h=>
   exact ⟨rfl,rfl,items.toList,items2.toList,ns,ms,rfl,hi,hj,by lia,h⟩
end
section
variable {prog:Program} {w:World} {A:Around} {E:Value->Shared->Prop} {s:Shared}
theorem ia {items2:Array Value} {ns ms:List Int} (hl:IsTup s.heap l items) (hb:IsTup s.heap b items2) (hi:IntsAre items.toList ns) (hj:IntsAre items2.toList ms)
  (hu:A.units<cLine) (h:Q (.bool (aQ ns ms)) s):wpAny (model prog w) A (compareOp .Lt (.ref l) (.ref b)) Q E s:=by
 obtain ⟨⟨cls,dd,data,sl⟩,ho,hc,n,hd⟩:=id hl
 obtain ⟨⟨cls2,dd2,data2,sl2⟩,ho2,hc2,n2,hd2⟩:=id hb
 simp only at hc hd hc2 hd2
 subst hc hd hc2 hd2
 exact richCompare_meets_room (op:=.Lt) ⟨_,ho,rfl⟩ ⟨_,ho2,rfl⟩ Dk En (Eb _ _) (eU l b items items2 n n2 dd dd2 sl sl2 ns ms hi hj)
  ⟨ho,ho2,show C3 (aQ ns ms)≠Dq/\Q (.bool (aQ ns ms)) s from ⟨(λ x=>nomatch x),h⟩⟩ hu
theorem sw {ws:List Value} (ht:IsTup s.heap t vs.toArray) (hb:IsTup s.heap b ws.toArray) (hv:vs≠[])
  (h1:ws=[]->Q (.ref t) s) (h2:ws≠[]->Q (.ref s.heap.objs.size) { s with heap:=s.heap.push { cls:=.type "tuple",data:=.seq (vs++ws).toArray } })
  (hsz:vs.length+ws.length<=sizeLine):wpAny (model prog w) A (binaryOp .Add (.ref t) (.ref b)) Q E s:=by
 obtain ⟨⟨cls,dd,data,sl⟩,ho,hc,n,hd⟩:=id ht
 obtain ⟨⟨cls2,dd2,data2,sl2⟩,ho2,hc2,n2,hd2⟩:=id hb
 simp only at hc hd hc2 hd2
 subst hc hd hc2 hd2
 have e:vs.toArray++ws.toArray=(vs++ws).toArray:=by simp
 by_cases hw:ws=[]
 ·exact concat_meets ⟨_,ho,rfl⟩ ⟨_,ho2,rfl⟩ noFill_tuple_add seq_tuple_add Dc C5 (CY _ _)
   (tuple_addW1 t b vs.toArray ws.toArray n n2 dd dd2 sl sl2 (by simpa using hv) (by simp [hw])) ⟨ho,ho2,h1 hw⟩
 ·refine concat_meets ⟨_,ho,rfl⟩ ⟨_,ho2,rfl⟩ noFill_tuple_add seq_tuple_add Dc C5 (CY _ _)
   (tuple_addW2 t b vs.toArray ws.toArray n n2 dd dd2 sl sl2 (by simpa using hv) (by simpa using hw) (by rw [Ar,Ar]; exact hsz)) ⟨ho,ho2,?_⟩
  rw [e]
  exact h2 hw
noncomputable def sIx (n d:Nat):Option Int->Nat
 | none=>d
 | some v=>if v<0 then (v+(n:Int)).toNat else min v.toNat n
theorem ku (n d:Nat):sIx n d none=d:=rfl
theorem mK (n d k:Nat):sIx n d (some (k:Int))=min k n:=by
 show (if (k:Int)<0 then ((k:Int)+(n:Int)).toNat else min (k:Int).toNat n)=min k n
 rw [if_neg (by lia),CD]
theorem vn (n d:Nat) (hd:d<=n) (o:Option Int):sIx n d o<=n:=by
 cases o with
 | none=>exact hd
 | some v=>
  show (if v<0 then (v+(n:Int)).toNat else min v.toNat n)<=n
  by_cases hv:v<0
  ·rw [if_pos hv]; lia
  ·rw [if_neg hv]; exact Nat.min_le_right _ _
theorem mL (v:Int) (n d:Nat):(if v<0 then max (v+(n:Int)) 0 else min v (n:Int))=((sIx n d (some v):Nat):Int):=by
 show (if v<0 then max (v+(n:Int)) 0 else min v (n:Int))=(((if v<0 then (v+(n:Int)).toNat else min v.toNat n):Nat):Int)
 by_cases hv:v<0
 ·simp only [if_pos hv]; lia
 ·simp only [if_neg hv]; lia
theorem lE (lo hi:Option Int) (n:Nat):CS lo hi 1 (n:Int)=(((sIx n 0 lo:Nat):Int),((sIx n n hi:Nat):Int)):=by
 have h1:¬ ((1:Int)<0):=by lia
 unfold CS
 simp only [h1,if_false]
 refine Prod.ext ?_ ?_
 ·cases lo with
  | none=>rfl
  | some v=>exact mL v n 0
 ·cases hi with
  | none=>rfl
  | some v=>exact mL v n n
theorem lF (i j:Nat):Ch (i:Int) (j:Int) 1=j - i:=by
 unfold Ch
 have h1:(1:Int) > 0:=by lia
 simp only [h1,if_true,Int.ediv_one]
 split<;>lia
theorem ib {v:Value} {o:Option Int} {Q:Option Int->Shared->Prop} (p:IsPart v o) (h:Q o s):wpAny (model prog w) A (Gc v) Q E s:=by
 cases p with
 | none=>exact slicePart_none h
 | int i t=>exact slicePart_int h
theorem dF {sl:Addr} {vl vu:Value} {lo hi:Option Int} {Q:Int×Int×Nat->Shared->Prop} (hs:s.heap.IsSliceOf sl vl vu .none) (pl:IsPart vl lo) (pu:IsPart vu hi)
  (h:Q (((sIx n 0 lo:Nat):Int),1,sIx n n hi - sIx n 0 lo) s):wpAny (model prog w) A (DM (.ref sl) (pure (n:Int))) Q E s:=by
 obtain ⟨os,hos,hcs,hds⟩:=id hs
 unfold DM GG
 refine wpAny_bind (wpAny_bind (wpAny_field hos hds (x:=vl) rfl (wpAny_bind (wpAny_field hos hds (x:=vu) rfl (wpAny_bind (wpAny_field hos hds (x:=.none) rfl (wpAny_pure ?_)))))))
 refine wpAny_bind (slicePart_none ?_)
 show wpAny _ _ (if ((1:Int) == 0)=true then _ else _) _ _ s
 rw [if_neg (by decide)]
 refine wpAny_bind (ib pl (wpAny_bind (ib pu (wpAny_bind (wpAny_pure ?_)))))
 show wpAny _ _ (match CS lo hi 1 (n:Int) with | (lo,hi)=>pure (lo,(1:Int),Ch lo hi 1)) _ _ s
 rw [lE lo hi n]
 show wpAny _ _ (pure (((sIx n 0 lo:Nat):Int),(1:Int),Ch ((sIx n 0 lo:Nat):Int) ((sIx n n hi:Nat):Int) 1)) _ _ s
 rw [lF]
 exact wpAny_pure h
theorem pL (xs:Array Value) (i k:Nat):((As k).filterMap λ (m:Nat)=>xs[((i:Int)+(m:Int)*1).toNat]?).toArray=((xs.toList.drop i).take k).toArray:=by
 have e:(λ (m:Nat)=>xs[((i:Int)+(m:Int)*1).toNat]?)=λ m=>xs[i+m]?:=by
  funext m
  have:((i:Int)+(m:Int)*1).toNat=i+m:=by lia
  rw [this]
 rw [e]
 have:=pick_run xs i k
 rw [List.filterMap_map] at this
 have e2:((λ x=>xs[x]?)∘λ x=>i+x)=λ m=>xs[i+m]?:=rfl
 rw [e2] at this
 rw [this]
theorem fj {sl:Addr} {vl vu:Value} {lo hi:Option Int} (ht:IsTup s.heap t items) (hs:s.heap.IsSliceOf sl vl vu .none) (pl:IsPart vl lo) (pu:IsPart vu hi)
  (hw:¬ (sIx items.size 0 lo=0/\sIx items.size items.size hi=items.size))
  (h:Q (.ref s.heap.objs.size) { s with heap:=s.heap.push { cls:=.type "tuple",data:=.seq ((items.toList.drop (sIx items.size 0 lo)).take (sIx items.size items.size hi - sIx items.size 0 lo)).toArray } })
  (hsz:items.size<=sizeLine):wpAny (model prog w) A (getItem (.ref t) (.ref sl)) Q E s:=by
 have htake:sizeOk (.seq ((items.toList.drop (sIx items.size 0 lo)).take (sIx items.size items.size hi - sIx items.size 0 lo)).toArray):=by
  show ((items.toList.drop (sIx items.size 0 lo)).take (sIx items.size items.size hi - sIx items.size 0 lo)).toArray.size<=sizeLine
  rw [Ar,A8,Bc,Bs]
  lia
 have hj:sIx items.size items.size hi<=items.size:=vn _ _ (Ai _) hi
 obtain ⟨os,hos,hcs,hds⟩:=id hs
 have hTs:s.TypeIs (.ref sl) "slice":=⟨os,hos,hcs⟩
 unfold getItem
 try with_reducible refine wpAny_holding ?_
 first | refine wpAny_bind (wpAny_pure ?_) | skip
 refine wpAny_bind (wpAny_sequenceKey ht.typeIs (by decide) ?_)
 refine wpAny_bind (wpAny_callSpecial?_slot (name:=Dr "__getitem__") ht.typeIs Bl
  (wpAny_call_entry Bl ht.typeIs entry_tuple_getitem ?_ (args_tuple_getitem _ _)))
 show wpAny _ _ (DN (.ref t) >>= _) _ _ s
 refine wpAny_bind (tupleItemsOf_ ht ?_)
 refine wpAny_bind (wpAny_typeOf hTs ?_)
 rw [if_pos (by decide)]
 refine wpAny_bind (dF hs pl pu ?_)
 have hno:¬ ((((sIx items.size 0 lo:Nat):Int) == 0 && (1:Int) == 1 && (sIx items.size items.size hi - sIx items.size 0 lo) == items.size)=true):=by
  intro q
  rw [AZ,AZ] at q
  have q1:((sIx items.size 0 lo:Nat):Int)=0:=eq_of_beq q.1.1
  have q2:sIx items.size items.size hi - sIx items.size 0 lo=items.size:=eq_of_beq q.2
  exact hw ⟨by lia,by lia⟩
 show wpAny _ _ (if (((sIx items.size 0 lo:Nat):Int) == 0 && (1:Int) == 1 && (sIx items.size items.size hi - sIx items.size 0 lo) == items.size)=true then _ else _) _ _ s
 rw [if_neg hno,pL]
 first
  | exact wpAny_bind (m:=Cr _) (wpAny_newObj_type (wpAny_pure ⟨_,rfl,wpAny_pure h⟩) htake)
  | exact wpAny_bind (m:=Cr _) (wpAny_newObj_type (wpAny_bind (wpAny_pure (wpAny_pure ⟨_,rfl,wpAny_pure h⟩))) htake)
  | exact wpAny_bind (wpAny_bind (m:=Cr _) (wpAny_newObj_type (wpAny_pure (wpAny_pure ⟨_,rfl,wpAny_pure h⟩)) htake))
  | exact wpAny_bind (wpAny_bind (m:=Cr _) (wpAny_newObj_type (wpAny_pure ⟨_,rfl,wpAny_pure h⟩) htake))
end
end HT
namespace L2
open PySem PySem.Spec PyProof.Rows
noncomputable abbrev TO:=St->Hp->(Option Int->Hp->Prop)->Prop
noncomputable def PO (X:Cx) (e:Option Expr) (t:TO):Prop:=
 ∀ (pins:List (Addr×Obj)) (s:Shared) (σ:St) (H:Hp) (Q:Option Int->Hp->Prop),Inv X pins σ H s->t σ H Q->
  wpAny (model X.prog X.w) X.A (evalPart e X.env) (λ u s'=>∃ o H',Inv X pins σ H' s'/\IsPart u o/\Q o H') X.xe s
noncomputable def jN:TO:=λ _ H Q=>Q none H
noncomputable def sG (t:TE):TO:=λ σ H Q=>t σ H λ x H1=>∃ i,x=.int i/\Q (some i) H1
theorem bn {ns:List Int}:∀ {us:List Value},Vals (ns.map HR) us->IntsAre us ns:=by
 induction ns with
 | nil=>intro us r; rw [GX] at r; cases r; exact .nil
 | cons n ns ih=>
  intro us r
  rw [Bo] at r
  cases r with
  | cons r1 r2=>
   obtain ⟨t,e⟩:=r1
   subst e
   exact .cons n t (ih r2)
section
variable {X:Cx} {e:Expr} {te:TE} {lo hi:Option Expr} {tl th:TO} {pos p2:Pos}
theorem sH:PO X none jN:=by
 intro pins s σ H Q I h
 rw [evalPart_none]
 exact wpAny_pure ⟨none,H,I,.none,h⟩
theorem sI (h:PE X e te):PO X (some e) (sG te):=by
 intro pins s σ H Q I hw
 rw [evalPart_some]
 refine thn (h pins s σ H _ I hw) λ u s1 ⟨x,H1,I1,r1,q1⟩=>?_
 obtain ⟨i,rfl,q⟩:=q1
 obtain ⟨t,rfl⟩:=r1
 exact ⟨some i,H1,I1,.int i t,q⟩
noncomputable def SlR (X:Cx) (r:V->Option Int->Option Int->Hp->VK->Prop):Prop:=
 ∀ (pins:List (Addr×Obj)) (s:Shared) (σ:St) (H:Hp) (x:V) (v vl vu:Value) (lo hi:Option Int) (sl:Addr) (Q:VK),Inv X pins σ H s->RelV x v->s.heap.IsSliceOf sl vl vu .none->IsPart vl lo->IsPart vu hi->r x lo hi H Q->
  ∃ T id,typeLookup (.type T) "__getitem__" = pure (some (.builtin id))/\s.TypeIs v T/\wpAny (model X.prog X.w) X.A (getItem v (.ref sl)) (EP X pins σ Q) X.xe s
noncomputable def tSl (r:V->Option Int->Option Int->Hp->VK->Prop) (te:TE) (tl th:TO):TE:=λ σ H Q=>te σ H λ x H1=>tl σ H1 λ l H2=>th σ H2 λ u H3=>r x l u H3 Q
theorem pM {r:V->Option Int->Option Int->Hp->VK->Prop} (hr:SlR X r) (he:PE X e te) (hl:PO X lo tl) (hu:PO X hi th):PE X (.Subscript e (.Slice lo hi none p2) pos) (tSl r te tl th):=by
 intro pins s σ H Q I h
 refine Subscript_ (thn (he pins s σ H _ I h) λ v s1 ⟨x,H1,I1,r1,q1⟩=>?_)
 refine wpAny_Slice (thn (hl pins s1 σ H1 _ I1 q1) λ vl s2 ⟨l,H2,I2,pl,q2⟩=>thn (hu pins s2 σ H2 _ I2 q2) λ vu s3 ⟨u,H3,I3,pu,q3⟩=>?_)
 rw [evalPart_none]
 refine wpAny_pure ?_
 have I4:Inv X pins σ H3 { s3 with heap:=s3.heap.push { cls:=.type "slice",data:=.fields #[vl,vu,.none] } }:=I3.kept (t':=s3.toks) λ b ob q=>Aj _ q
 obtain ⟨T,id,hT,ht,hg⟩:=hr pins { s3 with heap:=s3.heap.push { cls:=.type "slice",data:=.fields #[vl,vu,.none] } } σ H3 x v vl vu l u s3.heap.objs.size Q I4 r1 (Ht ..) pl pu q3
 show wpAny (model X.prog X.w) X.A (subscriptTail e (.Slice lo hi none p2) v (.ref s3.heap.objs.size)) (EP X pins σ Q) X.xe { s3 with heap:=s3.heap.push { cls:=.type "slice",data:=.fields #[vl,vu,.none] } }
 exact tail_any (ops:=[.ref s3.heap.objs.size,v]) ht hT hg (by with_unfolding_all rfl)
noncomputable def mf (xs:List V) (lo hi:Option Int):List V:=(xs.drop (HT.sIx xs.length 0 lo)).take (HT.sIx xs.length xs.length hi - HT.sIx xs.length 0 lo)
theorem jO (xs:List V) (lo hi:Option Int):(mf xs lo hi).length<=xs.length:=by
 unfold mf
 rw [A8,Bc]
 lia
noncomputable def zv (K:Ae):V->Option Int->Option Int->Hp->VK->Prop:=λ x lo hi H Q=>∃ a xs,x=.ref a/\SqT K H a xs/\
 ¬ (HT.sIx xs.length 0 lo=0/\HT.sIx xs.length xs.length hi=xs.length)/\∀ p,H p=none->Q (.ref p) (upd H p (.tup (mf xs lo hi)))
theorem vo:SlR X (zv X.K):=by
 intro pins s σ H x v vl vu lo hi sl Q I rx hs pl pu h
 obtain ⟨a,xs,rfl,hx,hw,q⟩:=h
 cases rx
 obtain ⟨its,r,ht,hz⟩:=I.tuple hx
 have hlen:its.toArray.size=xs.length:=by rw [Ar]; exact r.length.symm
 refine ⟨"tuple",_,Bl.lookup,ht.typeIs,?_⟩
 refine HT.fj ht hs pl pu (by rw [hlen]; exact hw) ?_ (by rw [hlen]; exact hz)
 rw [hlen]
 refine ⟨.ref s.heap.objs.size,_,I.laid (t':=s.toks) (o:=.tup (mf xs lo hi)) (λ b ob q=>Aj _ q) (Ai _) ?_,rfl,q _ (I.hok.fresh (Ai _))⟩
 exact ⟨Bg (jO xs lo hi) hz,_,(r.drop (HT.sIx xs.length 0 lo)).take (HT.sIx xs.length xs.length hi - HT.sIx xs.length 0 lo),E1 _ _⟩
noncomputable def xH (K:Ae):R2:=λ x y H Q=>∃ a b ns ms,x=.ref a/\y=.ref b/\SqT K H a (ns.map HR)/\SqT K H b (ms.map HR)/\Q (.bl (HT.aQ ns ms)) H
theorem vp (hu:X.A.units<cLine):OpR X (compareOp .Lt) (xH X.K):=by
 intro pins s σ H x y v u Q I rx ry h
 obtain ⟨a,b,ns,ms,rfl,rfl,ha,hb,q⟩:=h
 cases rx
 cases ry
 obtain ⟨its,r1,p1,_⟩:=I.tuple ha
 obtain ⟨its2,r2,p2,_⟩:=I.tuple hb
 have i1:IntsAre its.toArray.toList ns:=bn r1
 have i2:IntsAre its2.toArray.toList ms:=bn r2
 exact HT.ia p1 p2 i1 i2 hu ⟨.bl (HT.aQ ns ms),H,I,rfl,q⟩
noncomputable def xI (K:Ae):R2:=λ x y H Q=>∃ a b xs ys,x=.ref a/\y=.ref b/\SqT K H a xs/\SqT K H b ys/\xs≠[]/\xs.length+ys.length<=sizeLine/\
 (ys=[]->Q (.ref a) H)/\(ys≠[]->∀ p,H p=none->Q (.ref p) (upd H p (.tup (xs++ys))))
theorem Vals.nil_iff (r:Vals xs us):us=[]↔xs=[]:=by
 cases r with
 | nil=>simp
 | cons _ _=>simp
theorem sJ:OpR X (binaryOp .Add) (xI X.K):=by
 intro pins s σ H x y v u Q I rx ry h
 obtain ⟨a,b,xs,ys,rfl,rfl,ha,hb,hx,hz,q1,q2⟩:=h
 cases rx
 cases ry
 obtain ⟨its,r1,p1,_⟩:=I.tuple ha
 obtain ⟨its2,r2,p2,_⟩:=I.tuple hb
 refine HT.sw p1 p2 (λ z=>hx (r1.nil_iff.mp z)) (λ z=>⟨.ref a,H,I,rfl,q1 (r2.nil_iff.mp z)⟩) (λ z=>?_) (by rw [<-r1.length,<-r2.length]; exact hz)
 refine ⟨.ref s.heap.objs.size,_,I.laid (t':=s.toks) (o:=.tup (xs++ys)) (λ b ob q=>Aj _ q) (Ai _) ?_,rfl,q2 (λ w=>z (r2.nil_iff.mpr w)) _ (I.hok.fresh (Ai _))⟩
 exact ⟨by rw [Ay]; exact hz,_,r1.append r2,E1 _ _⟩
end
noncomputable def ixN (n:Nat) (i:Int):Option Nat:=if 0<=i then (if i<n then some i.toNat else none) else if -(n:Int)<=i then some (i+n).toNat else none
noncomputable def atI {α:Type} (xs:List α) (i:Int):Option α:=(ixN xs.length i).bind λ j=>xs[j]?
theorem mM {i:Int} (h:ixN n i=some j):seqIndex? i n=some j/\j<n/\-(n:Int)<=i/\i<n:=by
 unfold ixN at h
 by_cases h0:0<=i
 ·rw [if_pos h0] at h
  by_cases h1:i<n
  ·rw [if_pos h1] at h
   have e:i.toNat=j:=Ba h
   exact ⟨by rw [seqIndex_of h0 h1,e],by lia,by lia,h1⟩
  ·rw [if_neg h1] at h; cases h
 ·rw [if_neg h0] at h
  by_cases h1:-(n:Int)<=i
  ·rw [if_pos h1] at h
   have e:(i+n).toNat=j:=Ba h
   exact ⟨by rw [seqIndex_neg (by lia) h1,e],by lia,h1,by lia⟩
  ·rw [if_neg h1] at h; cases h
theorem mO {α:Type} {xs:List α} {i:Int} {v:α} (h:atI xs i=some v):∃ j,seqIndex? i xs.length=some j/\xs[j]? = some v/\j<xs.length/\-(xs.length:Int)<=i/\i<xs.length:=by
 unfold atI at h
 cases e:ixN xs.length i with
 | none=>rw [e] at h; cases h
 | some j=>
  rw [e] at h
  obtain ⟨h1,h2,h3,h4⟩:=mM e
  exact ⟨j,h1,h,h2,h3,h4⟩
theorem bE {α:Type} {xs:List α} {v:α} (h:xs[j]? = some v):atI xs (j:Int)=some v:=by
 have hj:j<xs.length:=(AH.mp h).1
 have e:ixN xs.length (j:Int)=some j:=by
  unfold ixN
  rw [if_pos (by lia),if_pos (by lia)]; simp
 unfold atI; rw [e]; exact h
noncomputable def mP (b:Expr):Prop:=∀ o i,subscripted b false o i=operate [o,i] (getItem o i)
noncomputable def IxR (X:Cx) (r:R2):Prop:=
 ∀ (value slice:Expr) (pins:List (Addr×Obj)) (s:Shared) (σ:St) (H:Hp) (x y:V) (v u:Value) (Q:VK),Inv X pins σ H s->RelV x v->RelV y u->r x y H Q->
  subscripted slice false v u=operate [v,u] (getItem v u)->wpAny (model X.prog X.w) X.A (subscriptTail value slice v u) (EP X pins σ Q) X.xe s
noncomputable def MtR (X:Cx) (id:String) (r:V->List V->Hp->VK->Prop):Prop:=
 ∀ (pins:List (Addr×Obj)) (s:Shared) (σ:St) (H:Hp) (x:V) (xs:List V) (v:Value) (us:List Value) (Q:VK),Inv X pins σ H s->RelV x v->Vals xs us->r x xs H Q->
  wpAny (model X.prog X.w) X.A (call (.builtin id) (v::us)) (EP X pins σ Q) X.xe s
section
variable {X:Cx} {a b:Expr} {ta tb:TE} {pos:Pos}
theorem xJ {r:R2} (hr:IxR X r) (ha:PE X a ta) (hb:PE X b tb) (hs:mP b):PE X (.Subscript a b pos) (tOp r ta tb):=by
 intro pins s σ H Q I h
 exact Subscript_ (xr ha hb I h λ v u s2 x y H2 I2 rx ry q=>hr a b pins s2 σ H2 x y v u Q I2 rx ry q (hs _ _))
noncomputable def wH (K:Ae):R2:=λ x y H Q=>∃ p xs i v,x=.ref p/\y=.int i/\SqL K H p xs/\atI xs i=some v/\Q v H
noncomputable def wI (K:Ae):R2:=λ x y H Q=>∃ p xs i v,x=.ref p/\y=.int i/\SqT K H p xs/\atI xs i=some v/\Q v H
theorem sK:IxR X (wH X.K):=by
 intro value slice pins s σ H x y v u Q I rx ry h hs
 obtain ⟨p,xs,i,z,rfl,rfl,hq,he,q⟩:=h
 cases rx
 obtain ⟨t,rfl⟩:=ry
 obtain ⟨its,r,pl,hz⟩:=I.list hq
 obtain ⟨j,h1,h2,h3,h4,h5⟩:=mO he
 obtain ⟨w,ew,rw'⟩:=r.get h2
 have hl:=r.length
 have hn:=fy
 have fin:EP X pins σ Q w s:=⟨z,H,I,rw',q⟩
 by_cases h0:0<=i
 ·have hj:i.toNat=j:=by
   rw [seqIndex_of h0 h5] at h1
   exact Ba h1
  exact item_listR pl.isList h0 (by lia) (by rw [hj]; simpa using ew) fin hs
 ·have hj:(i+(its.toArray.size:Int)).toNat=j:=by
   rw [seqIndex_neg (by lia) h4] at h1
   rw [Ar,<-hl]
   exact Ba h1
  exact subscriptTail_builtinR (x:=w) pl.isList.typeIs slot_list_getitem.lookup
   (wpAny_getItem_list_neg (Q:=λ r s'=>r=w/\EP X pins σ Q r s') pl.isList (by lia) (by rw [Ar]<;>lia) (by lia) (by rw [hj]; simpa using ew) ⟨rfl,fin⟩) hs
theorem vq:IxR X (wI X.K):=by
 intro value slice pins s σ H x y v u Q I rx ry h hs
 obtain ⟨p,xs,i,z,rfl,rfl,hq,he,q⟩:=h
 cases rx
 obtain ⟨t,rfl⟩:=ry
 obtain ⟨its,r,pl,hz⟩:=I.tuple hq
 obtain ⟨j,h1,h2,h3,h4,h5⟩:=mO he
 obtain ⟨w,ew,rw'⟩:=r.get h2
 have hl:=r.length
 have hn:=fy
 have fin:EP X pins σ Q w s:=⟨z,H,I,rw',q⟩
 exact subscriptTail_builtinR (x:=w) pl.typeIs slot_tuple_getitem.lookup
  (getItem_tuple (j:=j) (Q:=λ r s'=>r=w/\EP X pins σ Q r s') pl (by lia) (by lia) (by rw [Ar,<-hl]; exact h1) (by simpa using ew) ⟨rfl,fin⟩) hs
theorem lG (its:List Value) (n j:Nat) (u:Value):BB (·.setIfInBounds j u) { cls:=.type "list",data:=.seq its.toArray n }={ cls:=.type "list",data:=.seq (its.set j u).toArray n }:=by
 simp [BB]
theorem Inv.lst {pins:List (Addr×Obj)} {σ:St} {H:Hp} {s:Shared} {p:Addr} {xs:List V} (I:Inv X pins σ H s) (h:H p=some (.lst xs)) :
  ∃ (its:List Value) (n:Nat),Vals xs its/\s.heap.get? p=some { cls:=.type "list",data:=.seq its.toArray n }/\xs.length<=sizeLine:=by
 obtain ⟨z,its,n,r,e⟩:=I.hok p _ h
 exact ⟨its,n,r,e,z⟩
theorem Inv.lstUpd {H:Hp} {s:Shared} {p:Addr} {its':List Value} {n':Nat} {f:Obj->Obj} (I:Inv X pins σ H s) (h:H p=some (.lst xs))
  (ho:s.heap.get? p=some { cls:=.type "list",data:=.seq its.toArray n }) (hf:f { cls:=.type "list",data:=.seq its.toArray n }={ cls:=.type "list",data:=.seq its'.toArray n' }) (r:Vals ys its') (hz:ys.length<=sizeLine) (t:Nat) :
  Inv X pins σ (upd H p (.lst ys)) { s with heap:=s.heap.update p f,toks:=t }:=by
 have e:(s.heap.update p f).get? p=some { cls:=.type "list",data:=.seq its'.toArray n' }:=by
  rw [BS f ho (by rw [hf]<;>rfl),hf]
 refine I.write (x:=p) (e:=p) (by rw [h]; trivial) (.inl rfl) (λ b u hb q=>(CA _ _ (AV hb)).trans q) ⟨_,e⟩ ?_
 exact ⟨hz,its',n',r,e⟩
noncomputable def jP:V->V->V->Hp->(Hp->Prop)->Prop:=λ o i v H Q=>∃ p xs k j,o=.ref p/\i=.int k/\H p=some (.lst xs)/\ixN xs.length k=some j/\Q (upd H p (.lst (xs.set j v)))
theorem fM:xk X jP:=by
 intro pins s σ H o i v ov iv u Q I ro ri rv h
 obtain ⟨p,xs,k,j,rfl,rfl,hp,hj,q⟩:=h
 cases ro
 obtain ⟨t,rfl⟩:=ri
 obtain ⟨its,n,r,ho,hz⟩:=I.lst hp
 obtain ⟨h1,h2,h3,h4⟩:=mM hj
 have hl:=r.length
 have hn:=fy
 have I':Inv X pins σ (upd H p (.lst (xs.set j v))) { s with heap:=s.heap.update p (BB (·.setIfInBounds j u)) }:=
  I.lstUpd hp ho (lG its n j u) (r.set rv j) (by rw [Bj]; exact hz) s.toks
 by_cases h0:0<=k
 ·have hk:k.toNat=j:=by
   rw [seqIndex_of h0 h4] at h1
   exact Ba h1
  exact PySem.W.ki_setAt ho h0 (by lia) (by rw [Ar,<-hl]; exact h4) (by rw [hk]; exact ⟨_,I',q⟩)
 ·have hk:(k+(its.toArray.size:Int)).toNat=j:=by
   rw [seqIndex_neg (by lia) h3] at h1
   rw [Ar,<-hl]
   exact Ba h1
  exact PySem.W.ki_setBack ho (by lia) (by rw [Ar,<-hl]; exact h3) (by lia) (by rw [hk]; exact ⟨_,I',q⟩)
noncomputable def zW (K:Ae):V->Option Int->Option Int->Hp->VK->Prop:=λ x lo hi H Q=>∃ a xs,x=.ref a/\SqL K H a xs/\∀ p,H p=none->Q (.ref p) (upd H p (.lst (mf xs lo hi)))
theorem jh:cY X (.builtin "len") (λ xs H Q=>∃ p ys,xs=[.ref p]/\(SqL X.K H p ys\/SqT X.K H p ys)/\Q (.int ys.length) H):=by
 intro pins s σ H xs us Q I r h
 obtain ⟨p,ys,rfl,hq,q⟩:=h
 obtain ⟨u,rfl,rx⟩:=im r
 cases rx
 have hn:=fy
 rcases hq with hq | hq
 ·obtain ⟨its,r',pl,hz⟩:=I.list hq
  have hlen:=r'.length
  exact Calls.call_len_list pl.isList (by simp only [Ar]<;>lia) ⟨.int ys.length,H,I.tok _,⟨s.toks+1,by rw [Ar,hlen]⟩,q⟩
 ·obtain ⟨its,r',pl,hz⟩:=I.tuple hq
  have hlen:=r'.length
  exact len_tuple pl (by simp only [Ar]<;>lia) ⟨.int ys.length,H,I.tok _,⟨s.toks+1,by rw [Ar,hlen]⟩,q⟩
theorem ji:cY X (.type "list") (λ xs H Q=>∃ p ys,xs=[.ref p]/\(SqL X.K H p ys\/SqT X.K H p ys)/\∀ l,H l=none->Q (.ref l) (upd H l (.lst ys))):=by
 intro pins s σ H xs us Q I r h
 obtain ⟨p,ys,rfl,hq,q⟩:=h
 obtain ⟨u,rfl,rx⟩:=im r
 cases rx
 have fin:∀ (its:List Value),Vals ys its->ys.length<=sizeLine->∀ (h':Heap) (c':Nat),(∀ b o',s.heap.get? b=some o'->h'.get? b=some o')->
   h'.get? s.heap.objs.size=some { cls:=.type "list",dict:=none,data:=.seq its.toArray c',slots:=#[] }->EP X pins σ Q (.ref s.heap.objs.size) { s with heap:=h' }:=λ its r' hz h' c' kp e=>
  ⟨.ref s.heap.objs.size,_,I.laid (t':=s.toks) kp (Ai _) (show ObjOk X.prog X.w _ h' _ (.lst ys) from ⟨hz,its,c',r',e⟩),rfl,q _ (I.hok.fresh (Ai _))⟩
 rcases hq with hq | hq
 ·obtain ⟨its,r',pl,hz⟩:=I.list hq
  have hlen:=r'.length
  obtain ⟨o,ho,hc,n,hd⟩:=pl.isList
  exact call_list_seq p (.inl rfl) ho hc hd (λ h' c' kp e=>fin its r' hz h' c' kp e) (by simp only [Ar]<;>lia)
 ·obtain ⟨its,r',pl,hz⟩:=I.tuple hq
  have hlen:=r'.length
  obtain ⟨o,ho,hc,n,hd⟩:=pl
  exact call_list_seq p (.inr rfl) ho hc hd (λ h' c' kp e=>fin its r' hz h' c' kp e) (by simp only [Ar]<;>lia)
theorem iu:cY X (.type "tuple") (λ xs H Q=>∃ p ys,xs=[.ref p]/\((SqL X.K H p ys/\∀ l,H l=none->Q (.ref l) (upd H l (.tup ys)))\/(SqT X.K H p ys/\Q (.ref p) H))):=by
 intro pins s σ H xs us Q I r h
 obtain ⟨p,ys,rfl,h⟩:=h
 obtain ⟨u,rfl,rx⟩:=im r
 cases rx
 rcases h with ⟨hq,q⟩ | ⟨hq,q⟩
 ·obtain ⟨its,r',pl,hz⟩:=I.list hq
  have hlen:=r'.length
  refine call_tuple_list pl.isList (λ h' kp=>?_) (by simp only [Ar]<;>lia)
  have I1:Inv X pins σ H { s with heap:=h' }:=I.kept (t':=s.toks) kp
  have I2:Inv X pins σ (upd H h'.objs.size (.tup ys)) { s with heap:=h'.push { cls:=.type "tuple",data:=.seq its.toArray } }:=
   I1.laid (t':=s.toks) (λ b o e=>Aj _ e) (Ai _) (show ObjOk X.prog X.w _ _ _ (.tup ys) from ⟨hz,its,r',E1 _ _⟩)
  exact ⟨.ref h'.objs.size,_,I2,rfl,q _ (I1.hok.fresh (Ai _))⟩
 ·obtain ⟨its,r',pl,hz⟩:=I.tuple hq
  exact call_tuple_same pl ⟨.ref p,H,I,rfl,q⟩
noncomputable def tyV (K:Ae) (T:String) (x:V) (H:Hp):Prop:=match x with
 | .str _=>T = "str"
 | .int _=>T = "int"
 | .ref p=>(T = "list"/\∃ xs,SqL K H p xs)\/(T = "tuple"/\∃ o,K.lookup p=some o/\o.cls=.type "tuple"/\o.dict=none)\/
   (T = "dict"/\((∃ kvs,H p=some (.dK kvs))\/∃ kvs,H p=some (.dT kvs)))\/(T = "set"/\∃ S n,H p=some (.set S n))
 | _=>False
theorem qO {H:Hp} {s:Shared} {T:String} {x:V} {v:Value} (I:Inv X pins σ H s) (r:RelV x v) (ty:tyV X.K T x H) :
  s.TypeIs v T/\∀ a,v=.ref a->∃ ob,s.heap.get? a=some ob/\ob.dict=none:=by
 cases x with
 | str z=>
  obtain ⟨t,rfl⟩:=r
  cases (show T = "str" from ty)
  exact ⟨typeIs_str s z t,λ _ e=>nomatch e⟩
 | int i=>
  obtain ⟨t,rfl⟩:=r
  cases (show T = "int" from ty)
  exact ⟨typeIs_int s i t,λ _ e=>nomatch e⟩
 | ref p=>
  cases r
  rcases ty with ⟨rfl,xs,hq⟩ | ⟨rfl,o,hk,hc,hd⟩ | ⟨rfl,hk⟩ | ⟨rfl,S,n,hk⟩
  ·obtain ⟨its,_,pl,_⟩:=I.list hq
   refine ⟨pl.isList.typeIs,λ a e=>?_⟩
   cases e
   obtain ⟨o,n,e,c,hd,_⟩:=pl
   exact ⟨o,e,hd⟩
  ·refine ⟨⟨o,I.kIn p o hk,hc⟩,λ a e=>?_⟩
   cases e
   exact ⟨o,I.kIn _ o hk,hd⟩
  ·have z:∃ o,s.heap.get? p=some o/\o.ExactDict:=by
    rcases hk with ⟨kvs,hk⟩ | ⟨kvs,hk⟩
    ·obtain ⟨_,_,_,_,o,_,_,e,ex,_⟩:=I.hok p _ hk
     exact ⟨o,e,ex⟩
    ·obtain ⟨_,_,_,_,o,_,_,e,ex,_⟩:=I.hok p _ hk
     exact ⟨o,e,ex⟩
   obtain ⟨o,e,ex⟩:=z
   refine ⟨⟨o,e,ex.1⟩,λ a e2=>?_⟩
   cases e2
   exact ⟨o,e,ex.2.1⟩
  ·obtain ⟨o,_,_,_,e,ex,_⟩:=I.hok p _ hk
   refine ⟨⟨o,e,ex.1⟩,λ a e2=>?_⟩
   cases e2
   exact ⟨o,e,ex.2.1⟩
 | _=>exact A7 ty
noncomputable def wJ (K:Ae) (T:String) (r:V->List V->Hp->VK->Prop) (to:TE):TE:=λ σ H Q=>to σ H λ x H1=>tyV K T x H1/\r x [] H1 Q
noncomputable def tBM (K:Ae) (T:String) (r:V->List V->Hp->VK->Prop) (to:TE) (t:TA):TE:=λ σ H Q=>to σ H λ x H1=>tyV K T x H1/\t σ H1 λ xs H2=>r x xs H2 Q
variable {o e:Expr} {es:List Expr} {to:TE} {t:TA} {name:Str} {apos cpos:Pos} {T id:String} {r:V->List V->Hp->VK->Prop}
theorem qP (pa:PlainAttrs T) (slot:Slot T name id) (hty:typeOf (.builtin id)=pure (.type "method_descriptor")) (hm:MtR X id r) (ho:PE X o to)
  (hbase:attributeBase o name X.env (eval o X.env)=eval o X.env:=by rfl) (hline:(apos.endLine == cpos.line)=true:=by rfl):PE X (.Call (.Attribute o name apos) [] [] cpos) (wJ X.K T r to):=by
 intro pins s σ H Q I h
 refine wpAny_Call_method0_late hbase hline (thn (ho pins s σ H _ I h) λ v s1 ⟨x,H1,I1,r1,ty,q1⟩=>?_)
 obtain ⟨h1,h2⟩:=qO I1 r1 ty
 exact ⟨T,id,pa,slot,hty,h1,h2,Eo rfl (PySem.evalArgs_none (hm pins s1 σ H1 x [] v [] Q I1 r1 .nil q1))⟩
theorem vt (pa:PlainAttrs T) (slot:Slot T name id) (hty:typeOf (.builtin id)=pure (.type "method_descriptor")) (hm:MtR X id r) (ho:PE X o to) (ha:PA X (e::es) t)
  (hbase:attributeBase o name X.env (eval o X.env)=eval o X.env:=by rfl)
  (hfew:((backTo cpos (starEach (e::es) X.env)).all (λ x=>!x.1) && (backToKw cpos (keywordEach [] X.env)).all (λ x=>x.1.isSome)
   && decide ((e::es).length+([]:List Keyword).length+(if ([]:List Keyword).isEmpty then 0 else 1)<30))=true:=by rfl)
  (hline:(apos.endLine == cpos.line)=true:=by rfl) (hs:starEach (e::es) X.env=(false,eval e X.env)::starEach es X.env:=by rfl) (hplain:(backTo cpos (starEach es X.env)).any (·.1)=false:=by rfl) :
  PE X (.Call (.Attribute o name apos) (e::es) [] cpos) (tBM X.K T r to t):=by
 intro pins s σ H Q I h
 refine wpAny_Call_method_late hbase hfew hline rfl (thn (ho pins s σ H _ I h) λ v s1 ⟨x,H1,I1,r1,ty,q1⟩=>?_)
 obtain ⟨h1,h2⟩:=qO I1 r1 ty
 refine ⟨T,id,pa,slot,hty,h1,h2,?_⟩
 have hA:=ha cpos pins s1 σ H1 _ I1 q1
 rw [hs] at hA ⊢
 refine Eo (by show (false || (backTo cpos (starEach es X.env)).any (·.1))=false; rw [hplain]<;>rfl) (Calls.evalArgs_plain ?_)
 exact thn hA λ us s2 ⟨vs,H2,I2,r2,q2⟩=>hm pins s2 σ H2 x vs v us Q I2 r1 r2 q2
end
noncomputable def MtM (X:Cx) (id:String) (r:V->List V->Hp->VK->Prop):Prop:=
 ∀ (pins:List (Addr×Obj)) (s:Shared) (σ:St) (H:Hp) (x:V) (xs:List V) (v:Value) (us:List Value) (Q:VK),Inv X pins σ H s->RelV x v->Vals xs us->r x xs H Q->
  wpAny (model X.prog X.w) X.A (call (.builtin id) (v::us)) (EP X pins σ Q) X.xe s
theorem Vals.one:∀ {x:V} {us:List Value},Vals [x] us->∃ u,us=[u]/\RelV x u
 | _,_,.cons r .nil=>⟨_,rfl,r⟩
theorem Vals.zero:∀ {us:List Value},Vals [] us->us=[]
 | _,.nil=>rfl
theorem Vals.dropLast {xs:List V} {us:List Value} (h:Vals xs us):Vals xs.dropLast us.dropLast:=by
 induction h with
 | nil=>exact .nil
 | cons r t ih=>
  cases t with
  | nil=>exact .nil
  | cons q t'=>exact .cons r ih
theorem Vals.reverse {xs:List V} {us:List Value} (h:Vals xs us):Vals xs.reverse us.reverse:=by
 induction h with
 | nil=>exact .nil
 | cons r t ih=>rw [Fh,Fh]; exact Vals.append ih (.cons r .nil)
theorem Vals.rep {xs:List V} {us:List Value} (h:Vals xs us):∀ k:Nat,Vals (Ap k xs).flatten (Ap k us).flatten
 | 0=>.nil
 | k+1=>by
  rw [BN,BN,Bu,Bu]
  exact Vals.append h (Vals.rep h k)
theorem lH {α:Type} (l:List α):l.eraseIdx (l.length - 1)=l.dropLast:=by
 induction l with
 | nil=>rfl
 | cons a r ih=>
  cases r with
  | nil=>rfl
  | cons b r=>
   have e:(a::b::r).length - 1=((b::r).length - 1)+1:=by
    have h1:(a::b::r).length=r.length+2:=rfl
    have h2:(b::r).length=r.length+1:=rfl
    lia
   rw [e,List.eraseIdx_cons_succ,ih]
   all_goals rfl
theorem jj (its:List Value):∀ (k:Nat) (acc:List Value),
  FN (λ x1 x2=>x1++x2) acc.toArray (Ap k its.toArray)=(acc++(Ap k its).flatten).toArray
 | 0,acc=>by simp
 | k+1,acc=>by
  have e:acc.toArray++its.toArray=(acc++its).toArray:=by simp
  have e2:(acc++its)++(Ap k its).flatten=acc++(Ap (k+1) its).flatten:=by
   rw [BN,Bu,A0]
  rw [<-e2,<-jj its k (acc++its),<-e,BN,FO]
section
variable {X:Cx} {pins:List (Addr×Obj)} {σ:St} {H:Hp} {s:Shared} {l b:Addr} {xs ys zs:List V}
theorem Inv.lset {its':List Value} {f:Array Value->Array Value} (I:Inv X pins σ H s) (hH:H l=some (.lst xs))
  (e:s.heap.get? l=some { cls:=.type "list",data:=.seq its.toArray n }) (hf:f its.toArray=its'.toArray) (hv:Vals ys its') (hz:ys.length<=sizeLine) :
  Inv X pins σ (upd H l (.lst ys)) { s with heap:=s.heap.update l (BB f),toks:=t' }:=by
 have q:=HJ e f
 rw [hf] at q
 refine I.write (x:=l) (e:=l) (by rw [hH]; exact trivial) (.inl rfl) (λ b' u hb hu=>(CA s.heap (BB f) (AV hb)).trans hu) ⟨_,q⟩ ?_
 exact ⟨hz,its',_,hv,q⟩
theorem Inv.lnew (I:Inv X pins σ H s) (hv:Vals ys its) (hz:ys.length<=sizeLine) :
  Inv X pins σ (upd H s.heap.objs.size (.lst ys)) { s with heap:=s.heap.push { cls:=.type "list",data:=.seq its.toArray },toks:=t' }:=
 I.laid (λ _ _ q=>Aj _ q) (Ai _) ⟨hz,its,0,hv,AW _ rfl⟩
theorem Inv.fresh (I:Inv X pins σ H s):H s.heap.objs.size=none:=I.hok.fresh (Ai _)
theorem Inv.lstM (I:Inv X pins σ H s) (hH:H l=some (.lst xs)):xs.length<=sizeLine/\∃ (its:List Value) (n:Nat),Vals xs its/\xs.length=its.length/\s.heap.get? l=some { cls:=.type "list",data:=.seq its.toArray n }:=by
 obtain ⟨z,its,n,r,e⟩:=I.hok l _ hH
 exact ⟨z,its,n,r,r.length,e⟩
theorem pN (h:n<=sizeLine):CZ n=false:=by
 unfold CZ
 exact decide_eq_false (by lia)
end
section
variable {X:Cx}
noncomputable def jQ:V->List V->Hp->VK->Prop:=λ x vs H Q=>∃ l xs y,x=.ref l/\vs=[y]/\H l=some (.lst xs)/\xs.length<sizeLine/\Q .non (upd H l (.lst (xs++[y])))
theorem mQ:MtM X "list.append" jQ:=by
 intro pins s σ H x vs v us Q I rx rv h
 obtain ⟨l,xs,y,rfl,rfl,hH,hz,q⟩:=h
 cases rx
 obtain ⟨u,rfl,ru⟩:=rv.one
 obtain ⟨z,its,n,r,hl,e⟩:=I.lstM hH
 refine call_meets F.slot_list_append ⟨_,e,rfl⟩ F.entry_list_append (F.args_list_append_2 _ _) (PySem.list_append l its.toArray n u (by rw [Ar]; lia)) ⟨e,?_⟩
 refine ⟨.non,_,I.lset (its':=its++[u]) hH e (by simp) (r.append (.cons ru .nil)) ?_,rfl,q⟩
 rw [Ay,BF]
 lia
noncomputable def xK:V->List V->Hp->VK->Prop:=λ x vs H Q=>∃ l xs y,x=.ref l/\vs=[]/\H l=some (.lst xs)/\xs[xs.length - 1]? = some y/\Q y (upd H l (.lst xs.dropLast))
theorem vv:MtM X "list.pop" xK:=by
 intro pins s σ H x vs v us Q I rx rv h
 obtain ⟨l,xs,y,rfl,rfl,hH,hy,q⟩:=h
 cases rx
 have hus:=rv.zero
 subst hus
 obtain ⟨z,its,n,r,hl,e⟩:=I.lstM hH
 obtain ⟨u,hu,ru⟩:=r.get hy
 have hy':its.toArray[its.toArray.size - 1]? = some u:=by
  show its.toArray[its.length - 1]? = some u
  rw [<-Array.getElem?_toList,<-hl]
  exact hu
 refine call_meets F.slot_list_pop ⟨_,e,rfl⟩ F.entry_list_pop (F.args_list_pop_1 _) (G8 l its.toArray n u hy' (by rw [Ar]; lia)) ⟨e,?_⟩
 refine ⟨y,_,I.lset (its':=its.dropLast) hH e ?_ r.dropLast ?_,ru,q⟩
 ·show its.toArray.eraseIdxIfInBounds (its.toArray.size - 1)=its.dropLast.toArray
  rw [Ar,List.eraseIdxIfInBounds_toArray,lH]
 ·rw [List.length_dropLast]
  lia
noncomputable def kv:V->List V->Hp->VK->Prop:=λ x vs H Q=>∃ l xs,x=.ref l/\vs=[]/\H l=some (.lst xs)/\Q .non (upd H l (.lst xs.reverse))
theorem lI:MtM X "list.reverse" kv:=by
 intro pins s σ H x vs v us Q I rx rv h
 obtain ⟨l,xs,rfl,rfl,hH,q⟩:=h
 cases rx
 have hus:=rv.zero
 subst hus
 obtain ⟨z,its,n,r,hl,e⟩:=I.lstM hH
 refine call_meets F.slot_list_reverse ⟨_,e,rfl⟩ F.entry_list_reverse (F.args_list_reverse_1 _) (Ge l its.toArray n (by rw [Ar]; lia)) ⟨e,?_⟩
 refine ⟨.non,_,I.lset (its':=its.reverse) hH e (by simp) r.reverse ?_,rfl,q⟩
 rw [CP]
 lia
noncomputable def yF:R2:=λ x y H Q=>∃ l b xs zs,x=.ref l/\y=.ref b/\H l=some (.lst xs)/\H b=some (.lst zs)/\xs.length+zs.length<=sizeLine/\∀ p,H p=none->Q (.ref p) (upd H p (.lst (xs++zs)))
theorem vw:OpR X (binaryOp .Add) yF:=by
 intro pins s σ H x y v u Q I rx ry h
 obtain ⟨l,b,xs,zs,rfl,rfl,hH,hB,hz,q⟩:=h
 cases rx
 cases ry
 obtain ⟨z,its,n,r,hl,e⟩:=I.lstM hH
 obtain ⟨z2,its2,n2,r2,hl2,e2⟩:=I.lstM hB
 refine PySem.P.add_list e e2 ?_ (by rw [Ar,Ar]; lia)
 have ea:its.toArray++its2.toArray=(its++its2).toArray:=by simp
 rw [ea]
 exact ⟨.ref _,_,I.lnew (t':=s.toks) (r.append r2) (by rw [Ay]; lia),rfl,q _ I.fresh⟩
noncomputable def yG:R2:=λ x y H Q=>∃ l k xs,x=.ref l/\y=.int k/\H l=some (.lst xs)/\-(2 ^ 63)<=k/\k<2 ^ 63/\xs.length*k.toNat<=sizeLine/\
 ∀ p,H p=none->Q (.ref p) (upd H p (.lst (Ap k.toNat xs).flatten))
theorem sL {α:Type} (xs:List α) (k:Nat):(Ap k xs).flatten.length=k*xs.length:=by
 induction k with
 | zero=>simp
 | succ k ih=>rw [BN,Bu,Ay,ih,Nat.succ_mul,E4]
theorem vx:OpR X (binaryOp .Mult) yG:=by
 intro pins s σ H x y v u Q I rx ry h
 obtain ⟨l,k,xs,rfl,rfl,hH,h1,h2,hz,q⟩:=h
 cases rx
 obtain ⟨t,rfl⟩:=ry
 obtain ⟨z,its,n,r,hl,e⟩:=I.lstM hH
 have hlen:its.toArray.size*k.toNat<=sizeLine:=by rw [Ar,<-hl]; exact hz
 have hcap:¬ its.toArray.size*k.toNat > (2 ^ 63 - 1) / 8:=by
  have:(sizeLine:Nat)<=(2 ^ 63 - 1) / 8:=by decide
  lia
 have hfit:¬ (!Builtin.List.listFitsIndex k)=true:=by
  rw [fitsIndex_both h1 h2]
  exact Ao
 have hlong:¬ CZ (its.toArray.size*k.toNat)=true:=by
  rw [pN hlen]
  exact Ao
 have hnew:FN (λ x1 x2=>x1++x2) #[] (Ap (if its.toArray.isEmpty=true then 0 else k.toNat) its.toArray)=(Ap k.toNat its).flatten.toArray:=by
  have f0:∀ m:Nat,FN (λ x1 x2=>x1++x2) #[] (Ap m its.toArray)=(Ap m its).flatten.toArray:=λ m=>by
   have:=jj its m []
   rw [Cz] at this
   exact this
  rw [f0]
  cases its with
  | nil=>simp
  | cons a r'=>rw [if_neg (by simp)]
 refine wpAny_binaryOp_repeat_ref (T:="list") (U:="int") (by decide) ⟨_,e,rfl⟩ (λ s'=>typeIs_int s' k t) noFill_list_mul F.fills_int_mul FP repeat_list F.slot_int_index.lookup
  (call_meets FP (typeIs_int s k t) F.entry_int_rmul (F.args_int_rmul_2 _ _) (int___rmul___int_list k t l its.toArray n)
   ⟨e,rfl,⟨_,e,rfl⟩,call_meets F.slot_list_mul ⟨_,e,rfl⟩ F.entry_list_mul (F.args_list_mul_2 _ _) (Fz l its.toArray n k t hfit hcap hlong) ⟨e,?_⟩⟩)
 rw [hnew]
 exact ⟨.ref _,_,I.lnew (t':=s.toks) (r.rep k.toNat) (by rw [sL,Nat.mul_comm]; exact hz),rfl,q _ I.fresh⟩
end
section
variable {prog:Program} {w:World} {A:Around} {E:Value->Shared->Prop} {s:Shared}
end
section
variable {X:Cx}
end
end L2
namespace Att
open PySem PySem.W PySem.Calls PyProof.Rows
theorem fZ {P:Params} :∀ (ns:List Int) (vs:List Value),WellAll P h vs (ns.map WData.int)->IntsAre vs ns:=by
 intro ns
 induction ns with
 | nil=>
  intro vs w
  rw [GX] at w
  cases w
  exact .nil
 | cons n ns ih=>
  intro vs w
  rw [Bo] at w
  cases w with
  | cons a b=>
   cases a
   exact .cons _ _ (ih _ b)
theorem mR {l:OpenLaw} (hn:l.most=some n) {P:Params} {args:List WData} {vals:List Value}
  (hpre:l.row.toRowW.claim.pre args=true) (hwl:WellAll P h vals args) :
  ∃ a vs ns,vals=[Aw a]/\args=[WData.list (ns.map WData.int)]/\h.get? a=some { cls:=.type "list",data:=.seq vs.toArray }/\IntsAre vs ns/\ns.length<=n:=by
 have hsh:WShape.hasAll [] args [.list .int]=true:=(pre_splitW hpre).1
 have hc:l.pre.holds [] { args:=args }=true:=(pre_splitW hpre).2
 obtain ⟨d,r,rfl,h1,h2⟩:=hasAllW_cons hsh
 obtain rfl:=hasAllW_nil h2
 obtain ⟨xs,rfl,h3⟩:=hasW_list h1
 obtain ⟨ns,rfl⟩:=items_int h3
 have hlen:ns.length<=n:=by
  unfold OpenLaw.pre at hc
  have h4:(WTm.not (.lt (.lit (.int (n:Int))) (.len (.arg 0)))).holds [] { args:=[.list (ns.map .int)] }=true:=by
   have h4:=(holds_andW hc).1
   rw [hn] at h4
   exact h4
  have h5:=condW_of h4 (w_not (w_lt w_lit (w_len_list (w_arg rfl))))
  rw [Af] at h5
  refine FC λ q=>?_
  have q':(n:Int)<((ns.length:Nat):Int):=by lia
  first
   | (rw [decide_eq_true q'] at h5; exact absurd h5 (by decide))
   | (simp at h5; lia)
 cases hwl with
 | cons w1 w2=>
  cases w2
  cases w1 with
  | list ho hall=>exact ⟨_,_,ns,rfl,rfl,ho,fZ ns _ hall,hlen⟩
theorem mS (l:OpenLaw) (args:List WData):l.row.toRowW.claim.post args (.bool true) args=true:=
 postW_of (r:=l.row.toRowW) (X:=(true == true))
  (show WShape.has [] (.bool true) .bool=true by first | rfl | decide | simp [WShape.has,WShape.arms,WShape.armsAll])
  (show (WTm.eq .res (.lit (.bool true))).value [] { args:=args,res:=some (.bool true),after:=args }=some (.bool (true == true)) from w_eq_bool (w_res rfl) w_lit) rfl
theorem jR {l:OpenLaw} {q:Program} {loose:List Str} {XP:(Str->Option Value)->Heap->Prop} {YP:World->Heap->Prop} {d:DefRec}
  (hn:l.most=some n) (hdf:d.params.defaults=[])
  (call:∀ (w:World) (s₀ s₁:Shared) (mg mb:Str->Option Value) (fa:Addr) (o:Obj) (pm cd doc:Value) (a:Addr) (vs:List Value) (ns:List Int),
   Ground q loose [] XP w s₀ mg mb s₁.heap->YP w s₁.heap->
   s₁.heap.get? fa=some o->o.data=.func (docDef d.name d.params d.body d.scope pm cd doc)->s₁.heap.CodeRec cd d.name->mg d.name=some (.ref fa)->
   s₁.heap.get? a=some { cls:=.type "list",data:=.seq vs.toArray }->IntsAre vs ns->ns.length<=n->s₁.gens=#[]->
   codeAny (model l.prog w) callerA (.call (.ref fa) ⟨[.ref a],[]⟩) (λ r s'=>r=.ok (.ret (.bool true))/\OldK s₁.heap s'.heap/\s'.os=s₁.os/\AllBare s'.gens) s₁) :
  WalkO q loose XP YP l.row.toRowW d [] (λ f vs=>FQ f vs):=by
 intro w s₀ s₁ mg mb G Y fa o pm cd doc dV kV ho hd hcd hD hmg hg args vals as hpre hlay hrd hwl hlo
 obtain rfl:dV=.none:=Dflts.none hD hdf
 obtain rfl:kV=.none:=Dflts.noKw hD
 obtain ⟨a,vs,ns,rfl,rfl,hobj,hints,hlen⟩:=mR hn hpre hwl
 refine enter_call (codeAny_mono (call w s₀ s₁ mg mb fa o pm cd doc a vs ns G Y ho (fd_plain hd) hcd hmg hobj hints hlen hg) λ r s' hq=>?_)
 obtain ⟨rfl,h2,h3,h4⟩:=hq
 exact ⟨.inl ⟨.bool true,.bool true,[],rfl,λ _=>rfl,.bool true,mS l _,λ _=>⟨Cc,λ _ hm=>(nomatch hm)⟩⟩,h2,h3,h4⟩
section
variable {prog:Program} {w:World} {A:Around} {E:Value->Shared->Prop} {s:Shared} {K:Frag}
end
end Att
namespace L2
open PySem PySem.Spec PyProof.Rows
theorem jk:∀ {vs:List Value} {ns:List Int},IntsAre vs ns->Vals (ns.map HR) vs
 | _,_,.nil=>.nil
 | _,_,.cons n t h=>.cons ⟨t,rfl⟩ (jk h)
noncomputable def xL (H:Hp):Prop:=∀ b,H b=none\/∃ o xs,H b=some (.frz o (.lst xs))
theorem pO {w:World} {K:Ae} {mg mb:Str->Option Value} {CX:CXT} {fa:Addr} {fd:FuncData} {sp:Sp} {s₁:Shared} {ns:List Int}
  (KX:K.In s₁.heap) (hns:s₁.heap.Ns mainGlobals mg) (hb:s₁.heap.Ns builtinsNs mb) (hbb:∀ x:Str,x≠"__name__"->mb x=bootBuiltins x) (hlim:s₁.heap.NoLimit) (hg:s₁.gens=#[])
  (ha:s₁.heap.get? a=some { cls:=.type "list",data:=.seq vs.toArray }) (hi:IntsAre vs ns) (hl:ns.length<=sizeLine) (hr:Room k callerA)
  (F:∀ base:Heap,K.In base->base.Ns mainGlobals mg->FnOk P w K mg base CX k fa fd [x] sp) (hbind:∀ (s:Shared) (u:Value),BindsTo s fd ⟨[u],[]⟩ [(x,u)])
  (hsp:∀ H:Hp,xL H->SqL K H a (ns.map HR)->sp [.ref a] H (λ v _=>v=.bl true) λ _ _ _=>False)
  (hCX:∀ H e s',CX [] H s₁ (λ _ _ _=>False) e s'->False) :
  codeAny (model P w) callerA (.call (.ref fa) ⟨[.ref a],[]⟩) (λ r s'=>r=.ok (.ret (.bool true))/\OldK s₁.heap s'.heap/\s'.os=s₁.os/\AllBare s'.gens) s₁:=by
 have rv:=jk hi
 have lenV:=hi.length
 -- from an abstract heap in which nothing but the script may be tracked
 have core:∀ H:Hp,xL H->SqL K H a (ns.map HR)->HOk P w H s₁.heap->(∀ b,H b≠none->b=a)->(H a≠none->K.lookup a=none)->
   codeAny (model P w) callerA (.call (.ref fa) ⟨[.ref a],[]⟩) (λ r s'=>r=.ok (.ret (.bool true))/\OldK s₁.heap s'.heap/\s'.os=s₁.os/\AllBare s'.gens) s₁:=by
  intro H hO hS hok hA hK
  have base_of:∀ {b:Addr} {o:Obj},s₁.heap.get? b=some o->H b=none->(pc s₁.heap H).get? b=some o:=λ e n=>pf e n
  have noA:∀ {b:Addr} {o:Obj} {es:Array DictEntry} {ep:Nat},s₁.heap.get? b=some o->o.data=.dict es ep->H b=none:=λ {b o es ep} e d=>by
   cases q:H b with
   | none=>rfl
   | some u=>
    have e':b=a:=hA b (by rw [q]; simp)
    subst e'
    rw [ha] at e; cases e
    have d':Data.seq vs.toArray _=Data.dict es ep:=d
    cases d'
  have nsK:∀ {b:Addr} {m:Str->Option Value},s₁.heap.Ns b m->(pc s₁.heap H).Ns b m:=λ {b m} ⟨o,es,ep,e,d,r⟩=>⟨o,es,ep,base_of e (noA e d),d,r⟩
  have hKb:K.In (pc s₁.heap H):=λ b o e=>base_of (KX b o e) (by
   cases q:H b with
   | none=>rfl
   | some u=>
    have e':b=a:=hA b (by rw [q]; simp)
    subst e'
    rw [hK (by rw [q]; simp)] at e; cases e)
  have hM:Mod K mg (pc s₁.heap H):=⟨hKb,nsK hns,⟨mb,nsK hb,hbb⟩,let ⟨mc,h1,h2⟩:=hlim; ⟨mc,nsK h1,h2⟩⟩
  have e0:Env0 P w K mg (pc s₁.heap H) callerA [] s₁ H:=⟨rfl,hM,λ b o e=>rG e,Cp (mi _ _),trivial,λ b hb=>absurd (show b∈([]:List Addr) from hb) (by simp),hok,.of_eq hg⟩
  refine codeAny_mono ((F _ hKb (nsK hns)).run callerA [] s₁ H ⟨[.ref a],[]⟩ [.ref a] [.ref a] _ _ hr e0 (hbind s₁ (.ref a)) (.cons rfl .nil) (hsp H hO hS)) λ r s' h=>?_
  cases r with
  | error e=>exact (hCX H e s' h).elim
  | ok fl=>
   cases fl with
   | next=>exact A7 h
   | brk=>exact A7 h
   | cont=>exact A7 h
   | ret u=>
    obtain ⟨v,H',os,bare,un,hok',r',q⟩:=h
    have q':v=.bl true:=q
    subst q'
    obtain rfl:u=C3 true:=r'
    refine ⟨rfl,OldK.of_keep λ b o e=>?_,os,bare⟩
    cases q:H b with
    | none=>exact un.keep b o e q (by intro z; exact absurd (show b∈([]:List Addr) from z) (by simp)) (by simp)
    | some u=>
     rcases hO b with z | ⟨ob,xs,z⟩
     ·rw [q] at z; cases z
     ·have z2:=un.frzs b ob _ z
      obtain ⟨e1,_⟩:=hok b _ z
      obtain ⟨e2,_⟩:=hok' b _ z2
      rw [e] at e1; cases e1
      exact e2
 cases hk:K.lookup a with
 | some o=>
  -- the script is one of the module's own objects
  have e:=KX a o hk
  rw [ha] at e
  cases e
  refine core (λ _=>none) (λ _=>.inl rfl) (.inr ⟨_,vs.toArray,_,hk,rfl,rfl,rfl,by rw [Ar,lenV]; exact hl,by simpa using rv⟩) (λ b u z=>by have z':(none:Option HO)=some u:=z; cases z') (λ b z=>absurd rfl z) λ z=>absurd rfl z
 | none=>
  refine core (λ b=>if b=a then some (.frz { cls:=.type "list",data:=.seq vs.toArray } (.lst (ns.map HR))) else none) (λ b=>?_) (.inl (.inr ⟨{ cls:=.type "list",data:=.seq vs.toArray },if_pos rfl⟩)) (λ b u z=>?_) (λ b z=>?_) λ _=>hk
  ·by_cases hb:b=a
   ·exact .inr ⟨_,_,if_pos hb⟩
   ·exact .inl (if_neg hb)
  ·by_cases hb:b=a
   ·have z':=(if_pos hb).symm.trans z
    cases z'
    subst hb
    exact ⟨ha,by rw [Af]; exact hl,vs,_,rv,ha⟩
   ·have z':=(if_neg hb).symm.trans z
    cases z'
  ·by_cases hb:b=a
   ·exact hb
   ·exact absurd (if_neg hb) z
theorem sM {l:Ej} {q:Program} {loose:List Str} {XP:(Str->Option Value)->Heap->Prop} {YP:World->Heap->Prop} {d:DefRec} {K:Params->Ae} {CX:World->CXT} {sp:World->Sp} 
  (hn:l.most=some n) (hn2:n<=sizeLine) (hdf:d.params.defaults=[]) (hr:Room k callerA)
  (hY:∀ (w:World) (h:Heap),YP w h->(K w.params).In h)
  (F:∀ (w:World) (mg:Str->Option Value) (fa:Addr) (h:Heap),(K w.params).In h->h.Ns mainGlobals mg->mg d.name=some (.ref fa)->
   ∃ fd:FuncData,(∀ (s:Shared) (u:Value),BindsTo s fd ⟨[u],[]⟩ [(x,u)])/\
    ∀ base:Heap,(K w.params).In base->base.Ns mainGlobals mg->FnOk l.prog w (K w.params) mg base (CX w) k fa fd [x] (sp w))
  (hsp:∀ (w:World) (H:Hp) (a:Addr) (ns:List Int),ns.length<=n->xL H->SqL (K w.params) H a (ns.map HR)->sp w [.ref a] H (λ v _=>v=.bl true) λ _ _ _=>False)
  (hCX:∀ (w:World) (H:Hp) (s:Shared) (e:Value) (s':Shared),CX w [] H s (λ _ _ _=>False) e s'->False) :
  Gq q loose XP YP l.row.toRowW d [] (λ f vs=>FQ f vs):=by
 refine Att.jR hn hdf λ w s₀ s₁ mg mb fa o pm cd doc a vs ns G Y ho hd hcd hmg hobj hints hlen hg=>?_
 have KX:=hY w _ Y
 obtain ⟨fd,hb,hF⟩:=F w mg fa _ KX G.T.g hmg
 exact pO KX G.T.g G.T.b G.T.builtins G.T.nolimit hg hobj hints (Bg hlen hn2) hr hF hb (λ H hO hS=>hsp w H a ns hlen hO hS) λ H e s'=>hCX w H s₁ e s'
noncomputable def gc (s:Stmt) (j:Nat):Stmt:=match s with
 | .ClassDef _ _ _ body _ _ _ _ _ _ _=>body.getD j (.Pass ⟨0,0,0,0⟩)
 | _=>.Pass ⟨0,0,0,0⟩
noncomputable def gf (s:Stmt):Arguments:=match s with
 | .FunctionDef _ a _ _ _ _ _ _ _ _=>a
 | _=>{ posonlyargs:=[],args:=[],vararg:=none,kwonlyargs:=[],kw_defaults:=[],kwarg:=none,defaults:=[] }
noncomputable def cZ (s:Stmt):List Stmt:=match s with
 | .FunctionDef _ _ b _ _ _ _ _ _ _=>b
 | _=>[]
noncomputable def ap (s:Stmt):Scope:=match s with
 | .FunctionDef _ _ _ _ _ _ sc _ _ _=>sc
 | _=>{ kind:=.function,names:=[],isGenerator:=false,isCoroutine:=false }
noncomputable abbrev CX0:CXT:=λ _ _ _ _ _ _=>False
noncomputable abbrev E0:XK:=λ _ _ _=>False
theorem aG:dE CX0 X E0:=λ _ _ _ _ _ _ _ h=>h.elim
structure Fun (K:Ae) (x qual:Str) (st:Stmt) (f:Addr) (fd:FuncData):Prop where
 ex:∃ (oc:Value) (od:Option Addr) (kV doc pm:Value) (an:Option Addr) (cdv ct:Value) (osl:Array (Option Value)),
  fd=CG x qual (gf st) (cZ st) (ap st) .none kV doc pm an cdv ct/\K.lookup f=some ⟨oc,od,.func fd,osl⟩/\Dz K cdv qual=true
 kp:Bv K (.ref f)=true
section
variable {P:Program} {w:World} {K:Ae} {mg:Str->Option Value} {base:Heap}
theorem Fun.ok {st:Stmt} {fd:FuncData} {N ps:List Str} {sp:Sp} (F:Fun K x qual st f fd) (S:FnScope N ps (ap st)) (len:∀ vs H Q E,sp vs H Q E->vs.length=ps.length)
  (hbody:∀ (cdv:Value) (A:Around) (outer:List Env) (s:Shared) (H:Hp) (vs:List V) (Q:VK) (E:XK),Room k (A.deeper (envOfC qual (ap st) s.heap.objs.size f cdv))->sp vs H Q E->
   ∃ t,PSs (gP CX0 P w K mg base N qual (ap st) f cdv A outer s H E).nox (cZ st) t/\t { nx:=λ _ H'=>Q .non H',rt:=Q } (bc N vs) H):FnOk P w K mg base CX0 (k+1) f fd ps sp:=by
 obtain ⟨oc,od,kV,doc,pm,an,cdv,ct,osl,rfl,lk,hcd⟩:=F.ex
 refine sv lk hcd S len λ A outer s H vs Q E hr hsp=>?_
 obtain ⟨t,h,q⟩:=hbody cdv A outer s H vs Q E hr hsp
 exact ⟨t,h.nox,q⟩
theorem Fun.binds {st:Stmt} {fd:FuncData} {ps:List Str} (F:Fun K x qual st f fd)
  (h:∀ (kV doc pm:Value) (an:Option Addr) (cdv ct:Value) (us:List Value),us.length=ps.length->bindArgs (CG x qual (gf st) (cZ st) (ap st) .none kV doc pm an cdv ct) ⟨us,[]⟩=pure (ps.zip us)):Binds K fd ps []:=by
 obtain ⟨oc,od,kV,doc,pm,an,cdv,ct,osl,rfl,lk,hcd⟩:=F.ex
 exact .all (h kV doc pm an cdv ct)
theorem qQ {st:Stmt} {oc:Value} {od an:Option Addr} {osl:Array (Option Value)} {kV doc pm cdv ct:Value} (l:K.lookup f=some ⟨oc,od,.func (CG x qual (gf st) (cZ st) (ap st) .none kV doc pm an cdv ct),osl⟩)
  (c:Dz K cdv qual=true) (k:Bv K (.ref f)=true):Fun K x qual st f (CG x qual (gf st) (cZ st) (ap st) .none kV doc pm an cdv ct):=⟨⟨oc,od,kV,doc,pm,an,cdv,ct,osl,rfl,l,c⟩,k⟩
end
theorem ay (h:n<=1000):n<sizeLine:=By h (by decide)
section
variable {X:Cx}
end
noncomputable def Same (H H':Hp):Prop:=∀ b o,H b=some o->H' b=some o
theorem Same.refl (H:Hp):Same H H:=λ _ _ h=>h
theorem Same.trans {H H2:Hp} (a:Same H H1) (b:Same H1 H2):Same H H2:=λ c o h=>b c o (a c o h)
theorem Same.free {H H':Hp} (e:Same H H') (h:H' l=G9):H l=G9:=by
 cases q:H l with
 | none=>rfl
 | some o=>
  rw [e l o q] at h
  cases h
theorem Same.seq {K:Ae} {H H':Hp} (e:Same H H') (h:SqL K H a xs):SqL K H' a xs:=by
 rcases h with (h | ⟨o,h⟩) | h
 ·exact .inl (.inl (e _ _ h))
 ·exact .inl (.inr ⟨o,e _ _ h⟩)
 ·exact .inr h
section
variable {X:Cx} {pins:List (Addr×Obj)} {σ:St} {H:Hp} {s:Shared}
theorem Inv.adopt {D:Addr} (I:Inv X pins σ H s) (hn:H D=none) (hL:D≠X.env.locals)
  (h1:D∈X.ex\/X.s₀.heap.objs.size<=D) (h2:∀ x c,X.env.cells.lookup x=some c->c≠D) (h3:∀ p∈X.pn++pins,p.1≠D)
  (new:ObjOk X.prog X.w (upd H D o) s.heap D o):Inv X pins σ (upd H D o) s:=by
 have nit:∀ b u,H b=some u->b≠D:=λ b u e z=>by rw [z,hn] at e; cases e
 have keep:∀ b u,H b=some u->upd H D o b=some u:=λ b u e=>by rw [aj (nit b u e)]; exact e
 refine I.step (h':=s.heap) (g':=s.gens) (d':=s.drawn) (t':=s.toks) (ch:=[D]) (λ b hb=>?_) (λ b o _ _ _ e _=>e) (λ b o _ _ _ e _=>⟨o.slots,e⟩) (λ b u hc e n=>?_)
  (λ b o _ e=>⟨o,e⟩) (λ b xs e=>keep b _ e) (λ b o u e=>keep b _ e) (λ b ps e=>⟨#[],by rw [keep b _ e]; simp⟩) (λ m hm=>hm) (λ b u e=>?_) I.bare
 ·have e:b=D:=by simpa using hb
  subst e
  exact ⟨h1,hL,h2,h3⟩
 ·rw [aj (λ z=>hc (by simp [z]))]; exact n
 ·by_cases hb:b=D
  ·subst hb; rw [aa] at e; cases e; exact new
  ·rw [aj hb] at e
   exact (I.hok b u e).stay (λ c v _ q=>q) (λ c q=>keep c _ q) λ c xs q=>keep c _ q
end
noncomputable def aJ (X:Cx) (N:List Str) (scope:Scope) (cl:List (Str×Addr)) (fp:List Addr) (C:Addr) (s:Shared) (H:Hp):Cx:=
 { X with N:=N,s₀:=s,H₀:=H,env:=compEnvC scope cl C X.env,outer:=X.stack,ex:=fp,fn:=λ _=>false,pn:=[],xe:=λ _ _=>False }
noncomputable def FrOk (X:Cx) (scope:Scope) (cl:List (Str×Addr)):List Str->Prop
 | []=>True
 | x::r=>(X.env.kindOf x=some .cell/\(relabel scope X.env).names.lookup x=some .cell/\∃ c,cl.lookup x=some c/\X.env.cells.lookup x=some c)/\FrOk X scope cl r
theorem FrOk.mem {X:Cx} {scope:Scope} {cl:List (Str×Addr)}:∀ {l:List Str},FrOk X scope cl l->∀ x∈l,
  X.env.kindOf x=some .cell/\(relabel scope X.env).names.lookup x=some .cell/\∃ c,cl.lookup x=some c/\X.env.cells.lookup x=some c
 | [],_,_,h=>nomatch h
 | y::r,⟨h1,h2⟩,x,h=>by
  rcases Al.mp h with e | e
  ·subst e; exact h1
  ·exact FrOk.mem h2 x e
noncomputable def ClOk (X:Cx):List (Str×Addr)->Prop
 | []=>True
 | p::r=>X.env.cells.lookup p.1=some p.2/\ClOk X r
theorem ClOk.get {X:Cx}:∀ {l:List (Str×Addr)},ClOk X l->∀ x c,l.lookup x=some c->X.env.cells.lookup x=some c
 | [],_,_,_,h=>by simp at h
 | p::r,⟨h1,h2⟩,x,c,h=>by
  obtain ⟨n,a⟩:=p
  cases e:x == n with
  | true=>
   have e':x=n:=by simpa using e
   subst e'
   simp only [FD,e] at h
   cases h
   exact h1
  | false=>
   simp only [FD,e] at h
   exact ClOk.get h2 x c h
structure CompOk (X:Cx) (N tgs frs:List Str) (ix:List Nat) (scope:Scope) (cl:List (Str×Addr)):Prop where
 clos:closureFor scope X.env=pure cl
 cell:∀ y∈scope.names,y.2≠.cell
 kind:scope.kind=.function
 names:∀ y∈scope.names,y.2=.local->scope.names.lookup y.1=some .local
 nm:N=tgs++frs
 ixs:ix.map (X.N[·]?)=frs.map some
 fr:FrOk X scope cl frs
 cls:ClOk X cl
 has:(relabel scope X.env).names.all (λ p=>!(p.2 == .cell || p.2 == .free) || (cl.lookup p.1).isSome)=true
noncomputable def gg (tgs:List Str) (ix:List Nat) (σ:St):St:=Ap tgs.length none++ix.map λ j=>(σ[j]?).getD none
section
variable {X:Cx} {N tgs frs:List Str} {ix:List Nat} {scope:Scope} {cl:List (Str×Addr)}
theorem lJ (c:CompOk X N tgs frs ix scope cl) (h1:N[i]? = some x) (h2:(gg tgs ix σ)[i]? = some (some v)):x∈frs/\∃ j:Nat,X.N[j]? = some x/\σ[j]? = some (some v):=by
 unfold gg at h2
 by_cases hi:i<tgs.length
 ·rw [AX (by simpa using hi),C4,if_pos hi] at h2
  cases h2
 ·rw [AQ (by simpa using hi),BR,Ak] at h2
  rw [c.nm,AQ (by lia)] at h1
  have e:=congrArg (·[i - tgs.length]?) c.ixs
  simp only [Ak,h1] at e
  cases q:ix[i - tgs.length]? with
  | none=>rw [q] at e; cases e
  | some j=>
   rw [q] at e h2
   simp only [FR,HG] at e h2
   refine ⟨Ax h1,j,e,?_⟩
   cases z:σ[j]? with
   | none=>rw [z] at h2; cases h2
   | some o=>rw [z] at h2; simp at h2; rw [h2]
theorem ic {l:List (Str×NameKind)} {k:NameKind} (h:l.lookup x=some k):(x,k)∈l:=B4 h
theorem CompOk.hasOf (c:CompOk X N tgs frs ix scope cl) (h:(relabel scope X.env).names.lookup x=some .cell\/(relabel scope X.env).names.lookup x=some .free):∃ a,cl.lookup x=some a:=by
 have all:=FE.mp c.has
 rcases h with h | h
 ·have q:=all _ (ic h)
  exact CV.mp (by simpa only [beq_self_eq_true,Bool.true_or,Cw,Gr] using q)
 ·have q:=all _ (ic h)
  exact CV.mp (by simpa only [beq_self_eq_true,E5,Cw,Gr] using q)
theorem kx {H:Hp} {s2:Shared} {h1:Heap} {tk:Nat} {m:Str->Option Value} (c:CompOk X N tgs frs ix scope cl) (I:Inv X pins σ H s2) (hf:∀ b∈fp,mq X pins H b) (hfl:∀ b∈fp,b<s2.heap.objs.size)
  (hC:s2.heap.objs.size<=C) (hns:h1.Ns C m) (hk:∀ b o,s2.heap.get? b=some o->h1.get? b=some o) {pins':List (Addr×Obj)}
  (hpin:∀ p∈pins',h1.get? p.1=some p.2/\s2.heap.objs.size<=p.1/\p.1≠C/\∀ v,p.2.data≠.cell v) :
  Inv (aJ X N scope cl fp C s2 H) pins' (gg tgs ix σ) H { s2 with heap:=h1,toks:=tk }:=by
 have hcn:∀ x a,cl.lookup x=some a->X.env.cells.lookup x=some a:=c.cls.get
 have clt:∀ x a,cl.lookup x=some a->a<s2.heap.objs.size:=λ x a e=>by
  obtain ⟨v,q⟩:=I.cell x a (hcn x a e)
  exact q.lt
 refine ⟨⟨I.ok.mod,c.kind,I.ok.glob,I.ok.blt,hC,λ x y a h1 h2=>I.ok.inj x y a (hcn _ _ h1) (hcn _ _ h2),λ x hx=>c.hasOf hx,(λ x a z _=>Bool.noConfusion z),I.ok.hd,I.ok.frames,.inl rfl,λ b hb=>⟨?_,λ x a e=>?_⟩,I.bs,Bg I.ok.bsz I.sz,λ b o e hb=>?_,λ b hb z=>?_,I.stack,I.stkFree⟩,
  rfl,I.bare,Un.kept hk,⟨m,hns,λ i x v e1 e2 e3=>?_⟩,λ x a e=>?_,I.hok.fresh hC,λ x a e=>I.freeC x a (hcn x a e),λ p hp=>?_,I.hok.kept hk,?_⟩
 ·exact AB (AA (hfl b hb) hC)
 ·exact (hf b hb).2.2.2.2.1 x a (hcn x a e)
 ·rcases (hf b hb).2.2.2.1 with z | z
  ·exact I.ok.noex b o e z
  ·exact absurd (AA (Am (I.ok.bs b o e).1) z) (BC _)
 ·rcases Al.mp (I.stkSub b z) with e | e
  ·exact (hf b hb).2.1 e
  ·exact (hf b hb).2.2.1 e
 ·obtain ⟨hx,j,n1,n2⟩:=lJ c e1 e2
  obtain ⟨k1,k2,a,l1,l2⟩:=c.fr.mem x hx
  obtain ⟨m',_,hl⟩:=I.loc
  obtain ⟨u,r,l⟩:=hl j x v n1 n2 (.inr (.inl k1))
  refine ⟨u,r,.inr ⟨.inl k2,a,l1,?_⟩⟩
  rcases l with ⟨l,_⟩ | ⟨_,a',l3,o,l4,l5⟩
  ·rw [k1] at l; cases l
  ·rw [l2] at l3; cases l3
   exact ⟨o,hk _ _ l4,l5⟩
 ·obtain ⟨v,o,q1,q2⟩:=I.cell x a (hcn x a e)
  exact ⟨v,o,hk _ _ q1,q2⟩
 ·have hp':p∈pins':=by simpa [aJ] using hp
  obtain ⟨q1,q2,q3,q4⟩:=hpin p hp'
  exact ⟨q1,I.hok.fresh q2,q3,λ z=>by
   rcases Al.mp (I.stkSub p.1 z) with e | e
   ·exact absurd (AA I.lt q2) (by rw [e]; exact BC _)
   ·exact I.nofs q2 e,q4⟩
 ·show (gg tgs ix σ).length=N.length
  unfold gg
  have e:=congrArg DC c.ixs
  simp only [Af] at e
  rw [c.nm]; simp [e]
theorem fz {prog:Program} {w:World} {A:Around} {R:Result->Shared->Prop} {s:Shared} {elt target iter:Expr} {pos:Pos} {it acc:Value} {env:Env} (I:Nat->Shared->Prop)
  (turn:∀ n s,I n s->wpAny (model prog w) A (pyNext it) (λ r s1=>match r with
   | none=>R (.ok .next) s1
   | some v=>wpAny (model prog w) A (letOwnedTupleGo target it v) (λ _ s1'=>wpAny (model prog w) A (assign target env v) (λ _ s2=>wpAny (model prog w) A (eval elt env) (λ x s3=>
     wpAny (model prog w) A (call (.builtin "list.append") [acc,x]) (λ _ s4=>∃ m,m<n/\I m s4) (λ _ _=>False) s3)
     (λ _ _=>False) s2) (λ _ _=>False) s1') (λ _ _=>False) s1) (λ _ _=>False) s)
  (n:Nat) (h:I n s) :
  codeAny (model prog w) A (.compLoop (.ListComp elt [⟨target,iter,[],0⟩] scope pos) 0 it acc env) R s:=by
 have up:∀ {α:Type} {t:Sem α} {Q Q':α->Shared->Prop} {E:Value->Shared->Prop} {s:Shared},wpAny (model prog w) A t Q (λ _ _=>False) s->(∀ a s,Q a s->Q' a s)->wpAny (model prog w) A t Q' E s:=λ h hq=>wpAny_mono h hq λ _ _ f=>f.elim
 refine codeAny_loop rfl I (λ n s hI=>?_) n h
 show wpAny _ _ ((compTurn (.ListComp elt [⟨target,iter,[],0⟩] scope pos) 0 it acc env).onRaise (λ x=>do noteFrame x env; theTreesLotGoes x)) _ _ s
 refine wpAny_noted ?_
 rw [compTurn_list1]
 refine wpAny_bind (wpAny_standAt (wpAny_bind (up (turn n s hI) (λ r s1 h1=>?_))))
 cases r with
 | none=>exact wpAny_pure h1
 | some v=>
  refine wpAny_bind (up h1 λ _ s1' h1'=>?_)
  exact wpAny_bind (up h1' (λ _ s2 h2=>wpAny_bind (wpAny_bind (up h2 (λ x s3 h3=>wpAny_bind (up h3
   (λ _ s4 h4=>wpAny_pure (wpAny_pure ⟨rfl,h4⟩))))))))
noncomputable def mT (wi:TI) (g:TG) (te:TE) (tgs:List Str) (ix:List Nat):TE:=λ σ H Q=>wi σ H λ J H1=>
 ∃ W:Nat->Nat->List V->St->Hp->Prop,(∃ m,W 0 m [] (gg tgs ix σ) H1)/\∀ i m xs σc H,W i m xs σc H->xs.length<sizeLine/\
  ((J.stop i H/\∀ p,H p=none->Q (.ref p) (upd H p (.lst xs)))\/(J.go i H/\∀ x H',J.yld i H x H'->g x σc H' λ σ2 H2=>te σ2 H2 λ y H3=>∃ m',m'<m/\W (i+1) m' (xs++[y]) σ2 H3))
noncomputable abbrev bH (us:List Value) (k:Nat):Obj:={ cls:=.type "list",data:=.seq us.toArray k }
theorem sO (c:CompOk X N tgs frs ix scope cl) (hc:X.calm=true) (hi:PI X tg iter wi)
  (hg:∀ fp C s H,PG (aJ X N scope cl fp C s H) tg g) (he:∀ fp C s H,PE (aJ X N scope cl fp C s H) elt te)
  (hs:∀ x,foldedSetIterable iter X.env x=pure x:=by intro _; rfl) :
  PE X (.ListComp elt [⟨tg,iter,[],0⟩] scope pos) (mT wi g te tgs ix):=by
 intro pins s σ H Q I h
 rw [eval_ListComp]
 refine wpAny_comprehension_free (use:=none) rfl hs c.clos c.kind c.names (thn (hi pins s σ H _ I h) λ xv s1 h1=>thn h1 λ itv s2 h2=>?_)
 obtain ⟨it,fp,tn,J,H2,rfl,I2,T,st2,f2,W,⟨m0,w0⟩,turn⟩:=h2
 have hfl:∀ b∈fp,b<s2.heap.objs.size:=λ b hb=>by
  obtain ⟨o,e,_⟩:=T.obj _ _ st2 b hb
  exact Am e
 have hcn:∀ x a,cl.lookup x=some a->X.env.cells.lookup x=some a:=c.cls.get
 refine wpAny_newObj_type (wpAny_newFunctionEnv c.cell (by intro y hy; simp at hy) (λ h1 hns1 hsb1=>?_) c.kind)
 dsimp only at hns1 hsb1 ⊢
 generalize hH2:s2.heap.push { cls:=.type "list",dict:=none,data:=.seq ([]:List Value).toArray }=G2 at hns1 hsb1 ⊢
 have hC:G2.objs.size=s2.heap.objs.size+1:=by rw [<-hH2,CF]
 generalize hCC:G2.objs.size=C at *
 generalize hDD:s2.heap.objs.size=D at *
 have hDC:D≠C:=by lia
 have hCle:D<=C:=by lia
 have old:∀ b o,s2.heap.get? b=some o->h1.get? b=some o:=λ b o e=>by
  have lt:b<s2.heap.objs.size:=Am e
  exact hsb1.extBut b o (AB (AA (hDD▸lt) hCle)) (Aj _ (hH2▸Aj _ e))
 have hacc:h1.get? D=some (bH [] 0):=hsb1.extBut _ _ hDC (Aj _ (hH2▸(hDD▸AW _ rfl)))
 have cellD:∀ x a,X.env.cells.lookup x=some a->a<D:=λ x a e=>by
  obtain ⟨v,q⟩:=I2.cell x a e
  exact hDD▸q.lt
 have fpc:∀ {H':Hp} {us:List Value} {k:Nat},(∀ b∈fp,H' b=none)->∀ b∈fp,mq (aJ X N scope cl fp C s2 H2) [(D,bH us k)] H' b:=λ {H' us k} hn b hb=>by
  have lb:=hfl b hb
  refine ⟨hn b hb,?_,λ z=>?_,.inl hb,λ x a e z=>?_,λ p hp=>?_⟩
  ·exact AB (AA lb hCle)
  ·rcases Al.mp (I2.stkSub b z) with e | e
   ·exact (f2 b hb).2.1 e
   ·exact (f2 b hb).2.2.1 e
  ·exact (f2 b hb).2.2.2.2.1 x a (hcn x a e) z
  ·have:p=(D,bH us k):=by simpa [aJ] using hp
   rw [this]; exact Cn lb
 have D_fs:D∉(aJ X N scope cl fp C s2 H2).fs:=λ z=>by
  rcases Al.mp (I2.stkSub D z) with e | e
  ·exact absurd I2.lt (by rw [<-e,hDD]; exact BC _)
  ·exact I2.nofs (Cp hDD) e
 have I3:=kx (tk:=s2.toks+([]:List (Str×Value)).length) (pins':=[(D,bH [] 0)]) c I2 f2 (λ b hb=>hDD▸hfl b hb) (hDD▸hCle:s2.heap.objs.size<=C) hns1 old (λ p hp=>by
  have e:p=(D,bH [] 0):=by simpa using hp
  subst e
  exact ⟨hacc,Cp hDD,hDC,λ v z=>by cases z⟩)
 have tn3:tn 0 h1:=T.keep _ _ _ st2 λ b _ o e=>old b o e
 have loop:codeAny (model X.prog X.w) X.A (.compLoop (.ListComp elt [⟨tg,iter,[],0⟩] scope pos) 0 (.ref it) (.ref D) (compEnvC scope cl C X.env))
   (compPost (model X.prog X.w) X.A X.xe none (EP X pins σ Q) (.ref D) C) { s2 with heap:=h1,toks:=s2.toks+([]:List (Str×Value)).length }:=by
  refine fz (λ n s'=>∃ i xs us k σc H',Inv (aJ X N scope cl fp C s2 H2) [(D,bH us k)] σc H' s'/\tn i s'.heap/\(∀ b∈fp,H' b=none)/\Vals xs us/\W i n xs σc H') ?_ m0
   ⟨0,[],[],0,_,H2,I3,tn3,λ b hb=>(f2 b hb).1,.nil,w0⟩
  rintro n s4 ⟨i,xs,us,k,σ4,H4,I4,tn4,fr4,rv,w4⟩
  obtain ⟨hsz,tt⟩:=turn i n xs σ4 H4 w4
  rcases tt with ⟨stop,fin⟩ | ⟨go,step⟩
  ·refine thn (T.done (aJ X N scope cl fp C s2 H2) rfl rfl rfl hc i _ s4 σ4 H4 _ I4 (fpc fr4) tn4 stop) λ r s5 ⟨hr,I5⟩=>?_
   subst hr
   obtain ⟨m,ns,_⟩:=I5.loc
   refine ⟨m,ns,λ h' sb=>?_⟩
   have J1:Inv X pins σ H4 s5:=I2.call' I5.os I5.base I5.hok I5.bare λ b hb=>⟨(f2 b hb).2.2.2.1,(f2 b hb).2.1,(f2 b hb).2.2.2.2.1,(f2 b hb).2.2.2.2.2⟩
   have big:∀ a,D<=a->a≠X.env.locals/\(a∈X.ex\/X.s₀.heap.objs.size<=a)/\(∀ x y,X.env.cells.lookup x=some y->y≠a)/\∀ p∈X.pn++pins,p.1≠a:=λ a ha=>by
    obtain ⟨q0,q1,q2,q3,q4,q5⟩:=I2.fpOk (b:=a) (H':=λ _=>none) (hDD▸ha) rfl
    exact ⟨q1,q3,q4,q5⟩
   obtain ⟨b1,b2,b3,b4⟩:=big C hCle
   have J2:Inv X pins σ H4 { s5 with heap:=h' }:=J1.turned (t':=s5.toks) (λ b o hb e=>sb.extBut b o hb e) I5.free b1 b2 b3 b4
   obtain ⟨p1,p2,p3,p4,p5⟩:=I5.pin (D,bH us k) (by simp)
   obtain ⟨d1,d2,d3,d4⟩:=big D (Ai _)
   have J3:Inv X pins σ (upd H4 D (.lst xs)) { s5 with heap:=h' }:=J2.adopt p2 d1 d2 d3 d4 ⟨BY hsz,us,k,rv,sb.extBut _ _ hDC p1⟩
   exact ⟨.ref D,_,J3,rfl,fin D p2⟩
  ·refine thn (T.item (aJ X N scope cl fp C s2 H2) rfl rfl rfl hc i _ s4 σ4 H4 _ I4 (fpc fr4) tn4 go) λ r s5 ⟨u,hr,h5⟩=>?_
   subst hr
   refine thn h5 λ _ s6 ⟨x,H6,I6,r6,y6,tn6,fr6⟩=>?_
   have I6':=I6.pinned (fpc fr6) (T.obj _ _ tn6)
   refine thn (hg fp C s2 H2 _ s6 σ4 H6 x u _ I6' r6 (step x H6 y6)) λ _ s7 ⟨σ7,H7,I7,q7⟩=>?_
   refine thn (he fp C s2 H2 _ s7 σ7 H7 _ I7 q7) λ yv s8 ⟨y,H8,I8,r8,m',hm,w8⟩=>?_
   obtain ⟨p1,p2,p3,p4,p5⟩:=I8.pin (D,bH us k) (by simp [aJ])
   have hsz':us.toArray.size<=sizeLine:=by simp; rw [<-rv.length]; exact BY hsz
   refine wpAny_list_append_plain (hsz:=hsz') ⟨k,p1⟩ λ h' pl sb=>?_
   have tn8:tn (i+1) s8.heap:=T.keep _ _ _ tn6 λ b hb o e=>(I8.pin (b,o) (AD _ (AD _ (cF hb e)))).1
   have fr8:∀ b∈fp,H8 b=none:=λ b hb=>by
    obtain ⟨o,e,d⟩:=T.obj _ _ tn6 b hb
    exact (I8.pin (b,o) (AD _ (AD _ (cF hb e)))).2.1
   have I9:Inv (aJ X N scope cl fp C s2 H2) [] σ7 H8 s8:=I8.pins_of λ p hp=>nomatch hp
   have I10:Inv (aJ X N scope cl fp C s2 H2) [] σ7 H8 { s8 with heap:=h' }:=I9.turned (t':=s8.toks) (it:=D) (λ b o hb e=>sb.extBut b o hb e) p2 p3 (.inr (Cp hDD))
    (λ x a e=>AB (cellD x a (hcn x a e))) (λ p hp=>by simp [aJ] at hp)
   obtain ⟨k',pl⟩:=pl
   have eu:us.toArray.push yv=(us++[yv]).toArray:=by simp
   rw [eu] at pl
   have I11:Inv (aJ X N scope cl fp C s2 H2) [(D,bH (us++[yv]) k')] σ7 H8 { s8 with heap:=h' }:=I10.pins_of λ p hp=>by
    have e:p=(D,bH (us++[yv]) k'):=by simpa using hp
    subst e
    exact ⟨pl,p2,p3,p4,λ v z=>by cases z⟩
   exact ⟨m',hm,i+1,xs++[y],us++[yv],k',σ7,H8,I11,T.keep _ _ _ tn8 λ b hb o e=>sb.extBut b o (AB (hfl b hb)) e,fr8,rv.append (.cons r8 .nil),w8⟩
 exact codeAny_compStart_list loop (T.self _ 0 _ _ _ tn3 loop)
end
section
variable {X:Cx}
noncomputable def pP (i j:Int):Prop:=0<j/\j.natAbs.log2<9000
theorem lK {j:Int} (h0:0<j) (h:j<2 ^ 64):j.natAbs.log2<9000:=by
 have:j.natAbs<2 ^ 64:=by lia
 have h2:=(DD (by lia:j.natAbs≠0)).mpr this
 lia
theorem pQ:OpR X (binaryOp .FloorDiv) (rI pP λ i j=>.int (i / j)):=opI λ i j _ _ _ _ _ hc q=>by
 have e:i.fdiv j=i / j:=Int.fdiv_eq_ediv_of_nonneg _ (Int.le_of_lt hc.1)
 exact floordiv_int (Int.ne_of_gt hc.1) (by rw [e]; exact q) (.inl (PyProof.noPylong_of_log2 hc.2))
theorem pR:cY X (.builtin "isinstance") (λ xs H Q=>∃ x t T b,xs=[x,.ty T]/\TyOf X.K H x t/\BH X.K t (.type T)=some b/\Q (.bl b) H):=by
 intro pins s σ H xs us Q I r h
 obtain ⟨x,t,T,b,rfl,ty,e,q⟩:=h
 obtain ⟨u,w',rfl,ru,rw'⟩:=sg r
 cases (show w'=BX T from rw')
 exact mF I ru ty e λ tk=>⟨.bl b,H,I.tok _,rfl,q⟩
example (K:Ae):BH K (.type "int") (.type "int")=some true:=rfl
example (K:Ae):BH K (.type "int") (.type "bool")=some false:=rfl
example (K:Ae):BH K (.type "tuple") (.type "tuple")=some true:=rfl
end
noncomputable def cA:Expr->Bool
 | .Starred ..=>false
 | _=>true
theorem aB {e:Expr} {es:List Expr} {env:Env} (h:cA e=true):starEach (e::es) env=(false,eval e env)::starEach es env:=by
 cases e<;>first | rfl | cases h
theorem dj {pos:Pos} {env:Env}:∀ {es:List Expr},es.all cA=true->(backTo pos (starEach es env)).any (·.1)=false
 | [],_=>rfl
 | e::es,h=>by
  rw [B9,AZ] at h
  rw [aB h.1]
  exact dj (es:=es) h.2
section
variable {X:Cx} {CX:CXT} {k:Nat} {f:Addr} {fd:FuncData} {ps:List Str} {sp:Sp} {E:XK} {x:Str} {p pos apos cpos:Pos} {e o:Expr} {es:List Expr} {te to:TE} {t:TA} {id T:String} {name:Str}
theorem zw (ha:PE X e te) (hr:PA X es t) (hn:cA e=true:=by rfl):PA X (e::es) (lD te t):=sk ha hr (aB hn)
theorem pS (F:FnOk X.prog X.w X.K X.mg X.base CX k f fd ps sp) (hr:Room k X.A) (hg:Gl X x) (hm:X.mg x=some (.ref f)) (hk:Bv X.K (.ref f)=true) (hb:Binds X.K fd ps []) (hx:dE CX X E)
  (ha:PA X (e::es) t) (hn:(e::es).all cA=true:=by rfl) (hdb:(x == ("__debug__" : Str))=false:=by decide):PE X (.Call (.Name x p) (e::es) [] pos) (pG sp [] E t):=by
 rw [B9,AZ] at hn
 exact sr F hr hg hm hk hb .nil hx ha hdb (aB hn.1) (dj hn.2)
theorem mU {r:List V->Hp->VK->Prop} (hc:cY X (.builtin id) r) (hg:Gl X x) (hm:X.mg x=none) (hv:bootBuiltins x=some (.builtin id)) (ha:PA X (e::es) t) (hn:(e::es).all cA=true:=by rfl) (hn2:x≠"__name__":=by decide) (hdb:(x == ("__debug__" : Str))=false:=by decide) :
  PE X (.Call (.Name x p) (e::es) [] pos) (tCB r t):=by
 rw [B9,AZ] at hn
 exact pJ hc hg hm hv ha hn2 hdb (aB hn.1) (dj hn.2)
theorem lL {r:List V->Hp->VK->Prop} (hc:cY X (.type T) r) (hg:Gl X x) (hm:X.mg x=none) (hv:bootBuiltins x=some (.type T)) (ha:PA X (e::es) t) (hn:(e::es).all cA=true:=by rfl) (hn2:x≠"__name__":=by decide) (hdb:(x == ("__debug__" : Str))=false:=by decide) :
  PE X (.Call (.Name x p) (e::es) [] pos) (tCB r t):=by
 rw [B9,AZ] at hn
 exact mJ hc hg hm hv ha hn2 hdb (aB hn.1) (dj hn.2)
theorem vy {r:V->List V->Hp->VK->Prop} (pa:PlainAttrs T) (slot:Slot T name id) (hty:typeOf (.builtin id)=pure (.type "method_descriptor")) (hm:MtR X id r) (ho:PE X o to) (ha:PA X [e] t)
  (hbase:attributeBase o name X.env (eval o X.env)=eval o X.env:=by rfl) (hline:(apos.endLine == cpos.line)=true:=by rfl) (hn:cA e=true:=by rfl) :
  PE X (.Call (.Attribute o name apos) [e] [] cpos) (tBM X.K T r to t):=by
 refine vt pa slot hty hm ho ha hbase ?_ hline (aB hn) rfl
 rw [aB hn]; rfl
end
section
variable {K:Ae} {σ:St} {H:Hp} {Q:VK} {D:Ends} {E:XK}
theorem yH {t u:TS} (h:t { D with nx:=u D } σ H):xg t u D σ H:=h
theorem yI (h:te σ H λ x H1=>g x σ H1 D.nx):qJ te g D σ H:=h
theorem pT {R:St->Hp->Prop} (h:R (σ.set i (some v)) H):il i v σ H R:=h
theorem xM {ti:TE} {t:rR} {R:St->Hp->Prop} (h:to σ H λ o H1=>ti σ H1 λ i H2=>t o i v H2 λ H3=>R σ H3):wE to ti t v σ H R:=h
theorem yJ (h:te σ H D.rt):xh te D σ H:=h
theorem xN (h:te σ H λ _ H1=>D.nx σ H1):rP te D σ H:=h
theorem xO (h:D.nx σ H):rM D σ H:=h
theorem zx {c:TT} {t u:TS} (h:c σ H λ b H1=>if b=true then t D σ H1 else u D σ H1):xi c t u D σ H:=h
theorem yK {c:TT} {tb:TE} (h:c σ H λ b H1=>if b=true then ta σ H1 Q else tb σ H1 Q):tIf c ta tb σ H Q:=h
theorem xP {t:TE} {R:Bool->Hp->Prop} (h:t σ H λ x H'=>∃ k,x=.bl k/\R k H'):se t σ H R:=h
theorem zX {t:TE} {R:Bool->Hp->Prop} (h:t σ H λ x H'=>∃ k,x=.bl k/\R k H'):tB t σ H R:=h
theorem zy {b:Bool} {R:Bool->Prop} (h:R b):∃ k,V.bl b=.bl k/\R k:=⟨b,rfl,h⟩
theorem yL {t:TT} {R:Bool->Hp->Prop} (h:t σ H λ c H1=>R (!c) H1):xb t σ H R:=h
theorem zA {t u:TT} {R:Bool->Hp->Prop} (h:t σ H λ c H1=>if c=true then R true H1 else u σ H1 R):tOr t u σ H R:=h
theorem yM {t u:TT} {R:Bool->Hp->Prop} (h:t σ H λ c H1=>if c=true then u σ H1 R else R false H1):xa t u σ H R:=h
theorem zY (h:Q v H):tC v σ H Q:=h
theorem zB {r:R2} {tb:TE} (h:ta σ H λ x H1=>tb σ H1 λ y H2=>r x y H2 Q):tOp r ta tb σ H Q:=h
theorem zC {r:V->Hp->VK->Prop} (h:ta σ H λ x H1=>r x H1 Q):tUn r ta σ H Q:=h
theorem zD {g:Int->Int->V} {i j:Int} (h:Q (g i j) H):rI0 g (.int i) (.int j) H Q:=⟨i,j,rfl,rfl,h⟩
theorem zE {C:Int->Int->Prop} {g:Int->Int->V} {i j:Int} (c:C i j) (h:Q (g i j) H):rI C g (.int i) (.int j) H Q:=⟨i,j,rfl,rfl,c,h⟩
theorem zZ {g:Int->V} {i:Int} (h:Q (g i) H):rU g (.int i) H Q:=⟨i,rfl,h⟩
theorem yN {i j:Int} (h:Q (.bl (decide (HR i=HR j))) H):rEq (.int i) (.int j) H Q:=⟨rfl,h⟩
theorem dI {p:Addr} {i:Int} (s:SqL K H p xs) (a:atI xs i=some v) (h:Q v H):wH K (.ref p) (.int i) H Q:=⟨p,xs,i,v,rfl,rfl,s,a,h⟩
theorem vz {p:Addr} {i:Int} (s:SqT K H p xs) (a:atI xs i=some v) (h:Q v H):wI K (.ref p) (.int i) H Q:=⟨p,xs,i,v,rfl,rfl,s,a,h⟩
theorem jl {p:Addr} {k:Int} {R:Hp->Prop} (s:H p=some (.lst xs)) (a:ixN xs.length k=some j) (h:R (upd H p (.lst (xs.set j v)))):jP (.ref p) (.int k) v H R:=⟨p,xs,k,j,rfl,rfl,s,a,h⟩
theorem vA {p:Addr} {i:Int} (s:H p=some (.lst xs)) (h:∃ v,atI xs i=some v/\Q v H):wH K (.ref p) (.int i) H Q:=let ⟨v,a,q⟩:=h; ⟨p,xs,i,v,rfl,rfl,HN s,a,q⟩
theorem sP {p:Addr} {i:Int} (s:H p=some (.tup xs)) (h:∃ v,atI xs i=some v/\Q v H):wI K (.ref p) (.int i) H Q:=let ⟨v,a,q⟩:=h; ⟨p,xs,i,v,rfl,rfl,HQ s,a,q⟩
theorem sQ {p:Addr} {k:Int} {R:Hp->Prop} (s:H p=some (.lst xs)) (h:∃ j,ixN xs.length k=some j/\R (upd H p (.lst (xs.set j v)))):jP (.ref p) (.int k) v H R:=let ⟨j,a,q⟩:=h; ⟨p,xs,k,j,rfl,rfl,s,a,q⟩
theorem zF {r:List V->Hp->VK->Prop} {t:TA} (h:t σ H λ vs H1=>r vs H1 Q):tCB r t σ H Q:=h
theorem xQ {tr:TA} {R:List V->Hp->Prop} (h:ta σ H λ x H1=>tr σ H1 λ xs H2=>R (x::xs) H2):lD ta tr σ H R:=h
theorem yO {R:List V->Hp->Prop} (h:R [] H):uE σ H R:=h
theorem xR {sp:Sp} {t:TA} (h:t σ H λ vs H1=>sp (vs++[]) H1 Q E):pG sp [] E t σ H Q:=h
theorem yP {t:TA} (h:t σ H λ xs H1=>xs.length<=sizeLine/\∀ p,H1 p=none->Q (.ref p) (upd H1 p (.lst xs))):xG t σ H Q:=h
theorem yQ {t:TA} (h:t σ H λ xs H1=>xs.length<=sizeLine/\∀ p,H1 p=none->Q (.ref p) (upd H1 p (.tup xs))):xF t σ H Q:=h
theorem iw {A B:Prop} (h:A):if true=true then A else B:=by rw [if_pos rfl]; exact h
theorem dM {A B:Prop} (h:B):if false=true then A else B:=by rw [if_neg Ao]; exact h
theorem bC {c A B:Prop} [Decidable c] (h1:c->A) (h2:¬ c->B):if decide c=true then A else B:=by
 by_cases h:c
 ·rw [decide_eq_true h]; exact iw (h1 h)
 ·rw [decide_eq_false h]; exact dM (h2 h)
theorem qR {c A B:Prop} [Decidable c] (hc:c) (h:A):if decide c=true then A else B:=by rw [decide_eq_true hc]; exact iw h
theorem qS {c A B:Prop} [Decidable c] (hc:¬ c) (h:B):if decide c=true then A else B:=by rw [decide_eq_false hc]; exact dM h
theorem aR (h:n<=1000):n<=sizeLine:=BY (ay h)
theorem xS {i j:Int} (h1:0<j) (h2:j<2 ^ 64):pP i j:=⟨h1,lK h1 h2⟩
theorem xT {i:Int} {b e:Nat} (h1:0<b) (h2:b<=64) (h3:e<=1000):pP i ((b ^ e:Nat):Int):=by
 have hp:0<b ^ e:=Nat.pow_pos h1
 refine ⟨Int.natCast_pos.mpr hp,?_⟩
 rw [C0,DD (Cn hp)]
 have h4:b ^ e<=64 ^ e:=Nat.pow_le_pow_left h2 e
 have h5:(64:Nat) ^ e=2 ^ (6*e):=by rw [Nat.pow_mul]
 have h6:2 ^ (6*e)<2 ^ 9000:=Nat.pow_lt_pow_right (by decide) (by lia)
 lia
theorem zG {i j:Int} (h1:0<j) (h2:j<1073741824):zu i j:=⟨h1,h2⟩
theorem xU {i j:Int} (h1:-(2 ^ 64)<i) (h2:i<2 ^ 64):CMul i j:=.inl ⟨h1,h2⟩
theorem xV {i j:Int} (h1:-(2 ^ 64)<j) (h2:j<2 ^ 64):CMul i j:=.inr ⟨h1,h2⟩
theorem zH {i j:Int} (h1:0<=j) (h2:j<=1000000) (h3:i.natAbs<2 ^ 64):wG i j:=⟨h1,h2,h3⟩
theorem wK (h:Q (.int 1000000000000000000) H):rI wG (λ i j=>.int (i ^ j.toNat)) (.int 10) (.int 18) H Q:=⟨10,18,rfl,rfl,⟨by decide,by decide,by decide⟩,by
 have e:(10:Int) ^ (18:Int).toNat=1000000000000000000:=by decide
 show Q (.int ((10:Int) ^ (18:Int).toNat)) H
 rw [e]; exact h⟩
noncomputable abbrev RC:=List V->Hp->VK->Prop
noncomputable def xW:RC:=λ xs H Q=>∃ i,xs=[.int i]/\Q (.int (if i<0 then -i else i)) H
noncomputable def sR:RC:=λ xs H Q=>∃ k,xs=[.bl k]/\Q (.int (if k then 1 else 0)) H
noncomputable def sS:RC:=λ xs H Q=>∃ i j,xs=[.int i,.int j]/\Q (.int (if j<i then j else i)) H
noncomputable def wL (K:Ae):RC:=λ xs H Q=>∃ p ys,xs=[.ref p]/\(SqL K H p ys\/SqT K H p ys)/\Q (.int ys.length) H
noncomputable def xX (K:Ae):RC:=λ xs H Q=>∃ x t T b,xs=[x,.ty T]/\TyOf K H x t/\BH K t (.type T)=some b/\Q (.bl b) H
noncomputable def jS (K:Ae):RC:=λ xs H Q=>∃ p ys,xs=[.ref p]/\(SqL K H p ys\/SqT K H p ys)/\∀ l,H l=none->Q (.ref l) (upd H l (.lst ys))
noncomputable def fN (K:Ae):RC:=λ xs H Q=>∃ p ys,xs=[.ref p]/\((SqL K H p ys/\∀ l,H l=none->Q (.ref l) (upd H l (.tup ys)))\/(SqT K H p ys/\Q (.ref p) H))
section
variable {X:Cx}
theorem vB:cY X (.builtin "abs") xW:=pE
theorem vC:cY X (.type "int") sR:=λ pins s σ H xs us Q I r h=>mD pins s σ H xs us Q I r (.inr h)
theorem vD (hc:X.calm=true):cY X (.builtin "min") sS:=mC hc
theorem vE:cY X (.builtin "len") (wL X.K):=jh
theorem vF:cY X (.builtin "isinstance") (xX X.K):=pR
theorem sT:cY X (.type "list") (jS X.K):=ji
theorem pU:cY X (.type "tuple") (fN X.K):=iu
end
theorem yR {i:Int} (h:Q (.int (if i<0 then -i else i)) H):xW [.int i] H Q:=⟨i,rfl,h⟩
theorem xY {k:Bool} (h:Q (.int (if k then 1 else 0)) H):sR [.bl k] H Q:=⟨k,rfl,h⟩
theorem yS {i j:Int} (h:Q (.int (if j<i then j else i)) H):sS [.int i,.int j] H Q:=⟨i,j,rfl,h⟩
theorem bt {p:Addr} (s:SqL K H p ys) (h:Q (.int ys.length) H):wL K [.ref p] H Q:=⟨p,ys,rfl,.inl s,h⟩
theorem mV {p:Addr} (s:SqT K H p ys) (h:Q (.int ys.length) H):wL K [.ref p] H Q:=⟨p,ys,rfl,.inr s,h⟩
theorem wM {i:Int} (h:Q (.bl false) H):xX K [.int i,.ty "bool"] H Q:=⟨_,_,_,_,rfl,.int i,rfl,h⟩
theorem mW {p:Addr} (s:SqL K H p ys\/SqT K H p ys) (h:∀ l,H l=none->Q (.ref l) (upd H l (.lst ys))):jS K [.ref p] H Q:=⟨p,ys,rfl,s,h⟩
theorem gh {p:Addr} (s:SqL K H p ys) (h:∀ l,H l=none->Q (.ref l) (upd H l (.tup ys))):fN K [.ref p] H Q:=⟨p,ys,rfl,.inl ⟨s,h⟩⟩
theorem gi {r:Int} (h0:0<=r) (h1:r<xs.length):∃ v,atI xs r=some v/\v∈xs:=by
 have hl:r.toNat<xs.length:=by lia
 have e:r=(r.toNat:Int):=by lia
 refine ⟨xs[r.toNat],?_,AU hl⟩
 have:=bE (xs:=xs) (j:=r.toNat) (v:=xs[r.toNat]) (by simp [hl])
 rw [<-e] at this; exact this
theorem yT (h:wi σ H λ J H1=>∃ W:Nat->Nat->St->Hp->Prop,(∃ m,W 0 m σ H1)/\∀ i m σ H,W i m σ H->
 (J.stop i H/\D.nx σ H)\/(J.go i H/\∃ N:St->Hp->Prop,(∀ σ' H',N σ' H'->∃ m',m'<m/\W (i+1) m' σ' H')/\∀ x H',J.yld i H x H'->g x σ H' λ σ2 H2=>tb { D with nx:=N,ct:=N,bk:=D.nx } σ2 H2)):wF wi g tb D σ H:=h
theorem xZ {ta:TA} {R:It->Hp->Prop} (h:ta σ H λ vs H1=>∃ j:Int,vs=[.int j]/\-(2 ^ 62)<=j/\j<2 ^ 62/\R (Itr 0 j.toNat) H1):rY ta σ H R:=h
theorem wN {tl:TE} {R:It->Hp->Prop} (h:tl σ H λ x H1=>∃ a,x=.ref a/\(∃ xs,SqL K H1 a xs)/\R (Itl K a) H1):rW K tl σ H R:=h
theorem x6 {tl:TE} {R:It->Hp->Prop} (h:tl σ H λ x H1=>∃ a,x=.ref a/\(∃ xs,SqT K H1 a xs)/\R (Itt K a) H1):xq K tl σ H R:=h
theorem zI {A B:Prop} (h:B):if (!true)=true then A else B:=dM h
theorem zJ {A B:Prop} (h:A):if (!false)=true then A else B:=iw h
theorem x8 {tgs:List Str} {ix:List Nat} (h:wi σ H λ J H1=>
 ∃ W:Nat->Nat->List V->St->Hp->Prop,(∃ m,W 0 m [] (gg tgs ix σ) H1)/\∀ i m xs σc H,W i m xs σc H->xs.length<sizeLine/\
  ((J.stop i H/\∀ p,H p=none->Q (.ref p) (upd H p (.lst xs)))\/(J.go i H/\∀ x H',J.yld i H x H'->g x σc H' λ σ2 H2=>te σ2 H2 λ y H3=>∃ m',m'<m/\W (i+1) m' (xs++[y]) σ2 H3))):mT wi g te tgs ix σ H Q:=h
end
structure QE (X:Cx) (e:Expr) (t:TE):Prop where
 out:PE X e t
structure QT (X:Cx) (e:Expr) (t:TT):Prop where
 out:PT X e t
structure QW (X:Cx) (e:Expr) (t:TT):Prop where
 out:PW X e t
structure QA (X:Cx) (es:List Expr) (t:TA):Prop where
 out:PA X es t
structure QO (X:Cx) (e:Option Expr) (t:TO):Prop where
 out:PO X e t
structure QI (X:Cx) (tg iter:Expr) (t:TI):Prop where
 out:PI X tg iter t
structure QG (X:Cx) (tg:Expr) (t:TG):Prop where
 out:PG X tg t
structure QGs (X:Cx) (ts:List Expr) (t:TGs):Prop where
 out:PGs X ts t
structure QS (X:Cx) (st:Stmt) (t:TS):Prop where
 out:PS X st t
structure QB (X:Cx) (sts:List Stmt) (t:TS):Prop where
 out:PSs X sts t
structure QOp (X:Cx) (f:Value->Value->Sem Value) (r:R2):Prop where
 out:OpR X f r
structure QUn (X:Cx) (f:Value->Sem Value) (r:V->Hp->VK->Prop):Prop where
 out:UnR X f r
structure QC (X:Cx) (f:Value) (r:List V->Hp->VK->Prop):Prop where
 out:cY X f r
structure QIx (X:Cx) (r:R2):Prop where
 out:IxR X r
structure QSl (X:Cx) (r:V->Option Int->Option Int->Hp->VK->Prop):Prop where
 out:SlR X r
noncomputable def yU:Expr->Bool
 | .Slice ..=>false
 | _=>true
theorem pV {b:Expr} (h:yU b=true):mP b:=by
 cases b<;>first | (intro _ _; rfl) | cases h
noncomputable def yV (K:Ae) (ta:TE):TT:=λ σ H Q=>ta σ H λ x H'=>∃ k,vf K x H' k/\Q k H'
section
variable {X:Cx} {a b c e o:Expr} {es rest:List Expr} {ta tb tc te to ti:TE} {tA tB':TT} {t:TA} {pos p p2 apos cpos:Pos} {r r':R2} {x:Str}
theorem qv (i:Nat) {x:Str} {pos:Pos} (hN:X.N[i]? = some x:=by rfl) (hv:Vis X.env.scope x:=by first | exact Av rfl | exact FS (Av rfl) | exact FS (FS rfl)) (hd:(x == ("__debug__" : Str))=false:=by decide)
  (hcd:(x == ("__classdict__" : Str))=false:=by decide):QE X (.Name x pos) (w5 i):=⟨uO hN hv hd hcd⟩
theorem ai {i j pos}:QE X (.Constant (.int i) j pos) (tC (.int i)):=⟨uP⟩
theorem jm {b j pos}:QE X (.Constant (.bool b) j pos) (tC (.bl b)):=⟨w6⟩
theorem dG {j pos}:QE X (.Constant .none j pos) (tC .non):=⟨uQ⟩
theorem gj {x j pos}:QE X (.Constant (.str x) j pos) (tC (.str x)):=⟨uR⟩
theorem mX (hg:Gl X x) (hm:X.mg x=none) (hv:bootBuiltins x=some u) (r:RelV v u) (hn:x≠"__name__":=by decide) (hd:(x == ("__debug__" : Str))=false:=by decide):QE X (.Name x pos) (tC v):=⟨rK hg hm hv r hn hd⟩
theorem aS {op:Operator} (ho:QOp X (binaryOp op) r) (ha:QE X a ta) (hb:QE X b tb):QE X (.BinOp a op b pos) (tOp r ta tb):=⟨xt ho.out ha.out hb.out⟩
theorem vG {op:UnaryOp} {r:V->Hp->VK->Prop} (ho:QUn X (unaryOp op) r) (ha:QE X a ta):QE X (.UnaryOp op a pos) (tUn r ta):=⟨xu ho.out ha.out⟩
theorem jT {op:CmpOp} (ho:QOp X (compareOp op) r) (ha:QE X a ta) (hb:QE X b tb) (hm:behindInMarks op b=false):QE X (.Compare a [op] [b] pos) (tOp r ta tb):=⟨sd ho.out ha.out hb.out hm⟩
theorem az {op:CmpOp} (ho:QOp X (compareOp op) r) (ha:QE X a ta) (hb:QE X b tb) (hm:behindInMarks op b=false):QT X (.Compare a [op] [b] pos) (se (tOp r ta tb)):=⟨sf ho.out ha.out hb.out hm⟩
theorem jn (ha:QT X a tA):QT X (.UnaryOp .Not a pos) (xb tA):=⟨uV ha.out⟩
theorem gk (h:QE X a ta) (he:∀ whole,isTrue a X.env whole=(do let v <-whole; standAt a.pos; holding [v] (truthy v)):=by intro _; rfl):QT X a (tB ta):=⟨uS h.out he⟩
theorem pW {K:Ae} (h:QE X a ta) (he:∀ whole,isTrue a X.env whole=(do let v <-whole; standAt a.pos; holding [v] (truthy v)):=by intro _; rfl) (hK:X.K=K:=by rfl):QT X a (yV K ta):=by subst hK; exact ⟨pD h.out he⟩
theorem iz (ha:QT X a tA):QW X (.BoolOp .And [a] pos) tA:=⟨rL ha.out⟩
theorem jo (ha:QT X a tA):QW X (.BoolOp .Or [a] pos) tA:=⟨uT ha.out⟩
theorem kz (ha:QT X a tA) (hb:QW X (.BoolOp .And (b::rest) pos) tB'):QW X (.BoolOp .And (a::b::rest) pos) (xa tA tB'):=⟨uU ha.out hb.out⟩
theorem mY (ha:QT X a tA) (hb:QW X (.BoolOp .Or (b::rest) pos) tB'):QW X (.BoolOp .Or (a::b::rest) pos) (tOr tA tB'):=⟨xf ha.out hb.out⟩
theorem QW.qt (h:QW X e tA):QT X e tA:=⟨h.out.pt⟩
theorem pX (hc:QT X c tA) (ha:QE X a ta) (hb:QE X b tb):QE X (.IfExp c a b pos) (tIf tA ta tb):=⟨ph hc.out ha.out hb.out⟩
theorem ac:QA X [] uE:=⟨vj⟩
theorem ao (ha:QE X e te) (hr:QA X es t) (hn:cA e=true:=by rfl):QA X (e::es) (lD te t):=⟨zw ha.out hr.out hn⟩
theorem aT (h:QA X es t):QE X (.List es pos) (xG t):=⟨vm h.out⟩
theorem cQ {x1} (h:QA X es t):QE X (.Tuple es x1 pos) (xF t):=⟨vk h.out⟩
theorem cn (hr:QIx X r) (ha:QE X a ta) (hb:QE X b tb) (hs:yU b=true:=by rfl):QE X (.Subscript a b pos) (tOp r ta tb):=⟨xJ hr.out ha.out hb.out (pV hs)⟩
theorem mZ:QO X none jN:=⟨sH⟩
theorem m3 (h:QE X e te):QO X (some e) (sG te):=⟨sI h.out⟩
theorem kC {r:V->Option Int->Option Int->Hp->VK->Prop} {lo hi:Option Expr} {tl th:TO} (hr:QSl X r) (he:QE X e te) (hl:QO X lo tl) (hu:QO X hi th):QE X (.Subscript e (.Slice lo hi none p2) pos) (tSl r te tl th):=⟨pM hr.out he.out hl.out hu.out⟩
theorem ax {id:String} {r:RC} (hc:QC X (.builtin id) r) (hg:Gl X x) (hm:X.mg x=none) (hv:bootBuiltins x=some (.builtin id)) (ha:QA X (e::es) t) (hn:(e::es).all cA=true:=by rfl) (hn2:x≠"__name__":=by decide) (hdb:(x == ("__debug__" : Str))=false:=by decide) :
  QE X (.Call (.Name x p) (e::es) [] pos) (tCB r t):=⟨mU hc.out hg hm hv ha.out hn hn2 hdb⟩
theorem aD {T:String} {r:RC} (hc:QC X (.type T) r) (hg:Gl X x) (hm:X.mg x=none) (hv:bootBuiltins x=some (.type T)) (ha:QA X (e::es) t) (hn:(e::es).all cA=true:=by rfl) (hn2:x≠"__name__":=by decide) (hdb:(x == ("__debug__" : Str))=false:=by decide) :
  QE X (.Call (.Name x p) (e::es) [] pos) (tCB r t):=⟨lL hc.out hg hm hv ha.out hn hn2 hdb⟩
theorem av {CX:CXT} {fd:FuncData} {ps:List Str} {sp:Sp} {E:XK} (F:FnOk X.prog X.w X.K X.mg X.base CX k f fd ps sp) (hr:Room k X.A) (hg:Gl X x) (hm:X.mg x=some (.ref f)) (hk:Bv X.K (.ref f)=true) (hb:Binds X.K fd ps []) (hx:dE CX X E)
  (ha:QA X (e::es) t) (hn:(e::es).all cA=true:=by rfl) (hdb:(x == ("__debug__" : Str))=false:=by decide):QE X (.Call (.Name x p) (e::es) [] pos) (pG sp [] E t):=⟨pS F hr hg hm hk hb hx ha.out hn hdb⟩
theorem de {K:Ae} (ho:QE X o to) (ha:QA X [e] t) (hbase:attributeBase o ("append" : Str) X.env (eval o X.env)=eval o X.env:=by rfl) (hline:(apos.endLine == cpos.line)=true:=by rfl) (hn:cA e=true:=by rfl) (hK:X.K=K:=by rfl) :
  QE X (.Call (.Attribute o "append" apos) [e] [] cpos) (tBM K "list" jQ to t):=by subst hK; exact ⟨vy Cv PySem.F.slot_list_append PySem.F.type_list_append mQ ho.out ha.out hbase hline hn⟩
variable {tg iter:Expr} {wi:TI} {g:TG} {i:Nat} {u:TGs}
theorem bM {p pos:Pos} (hg:Gl X "range") (hm:X.mg "range" = none) (ha:QA X [a] t) (hn:cA a=true:=by rfl):QI X tg (.Call (.Name "range" p) [a] [] pos) (rY t):=⟨mv hg hm ha.out (aB hn)⟩
theorem c4 {K:Ae} (hl:QE X e te) (hK:X.K=K:=by rfl):QI X tg e (rW K te):=by subst hK; exact ⟨rX hl.out⟩
theorem m4 {K:Ae} (hl:QE X e te) (hK:X.K=K:=by rfl):QI X tg e (xq K te):=by subst hK; exact ⟨u4 hl.out⟩
theorem au (hN:X.N.Nodup) (hi:X.N[i]? = some x) (hx:Loc X.env.scope x) (hf:X.fn x=true\/X.env.scope.names.lookup x=some .local:=by first | exact .inl rfl | exact .inr rfl | assumption):QG X (.Name x pos) (il i):=⟨rS hN hi hx hf⟩
theorem cG:QGs X [] xm:=⟨rT⟩
theorem aC {ts:List Expr} (h1:QG X e g) (h2:QGs X ts u) (hs:(assignEach (e::ts) X.env).map (·.2)=assign e X.env::(assignEach ts X.env).map (·.2):=by rfl):QGs X (e::ts) (pk g u):=⟨pp h1.out h2.out hs⟩
theorem dN {K:Ae} {ts:List Expr} (hc:X.calm=true) (h:QGs X ts u) (hn:(assignEach ts X.env).length=n:=by rfl) (hst:(assignEach ts X.env).findIdx? (·.1)=none:=by rfl) (hK:X.K=K:=by rfl):QG X (.Tuple ts k pos) (xn K n u):=by subst hK; exact ⟨uX hc h.out hn hst⟩
variable {st:Stmt} {sts s1 s2:List Stmt} {T1 T2:TS}
theorem bi:QB X [] rM:=⟨rN⟩
theorem ag (h1:QS X st T1) (h2:QB X sts T2):QB X (st::sts) (xg T1 T2):=⟨pi h1.out h2.out⟩
theorem am (h1:QS X st T1):QB X [st] T1:=⟨rO h1.out⟩
theorem aU (he:QE X e te):QS X (.Return (some e) pos) (xh te):=⟨uW he.out⟩
theorem kD:QS X st qH:=⟨pj⟩
theorem bF (he:QE X e te) (hs:swapsWith e none pos.line X.env=pure false:=by rfl):QS X (.Expr e pos) (rP te):=⟨rQ he.out hs⟩
theorem cq (hc:QT X c tA) (ha:QB X s1 T1) (hb:QB X s2 T2):QS X (.If c s1 s2 pos) (xi tA T1 T2):=⟨xj hc.out ha.out hb.out⟩
theorem aA {pos':Pos} (hN:X.N.Nodup) (hi:X.N[i]? = some x) (hx:Loc X.env.scope x) (he:QE X e te) (hs:swapsWith e (some (.Name x pos')) pos.line X.env=pure false:=by rfl) (hf:X.fn x=true\/X.env.scope.names.lookup x=some .local:=by first | exact .inl rfl | exact .inr rfl | assumption) :
  QS X (.Assign [.Name x pos'] e pos) (qJ te (il i)):=⟨uY hN hi hx he.out hs hf⟩
theorem qT {tpos:Pos} (he:QE X e te) (ho:QE X o to) (hi:QE X b tb)
  (ha:∀ v,assign (.Subscript o b tpos) X.env v=(do
   let ov <-holding [v] (eval o X.env)
   let iv <-holding [v,ov] (eval b X.env)
   standAt tpos
   holding [v,ov,iv] (setItem ov iv v)
   release [v,ov,iv] []):=by intro _; rfl)
  (hs:swapsWithSole [.Subscript o b tpos] e pos.line X.env=pure false:=by rfl) (hw:swappedStores [.Subscript o b tpos] e X.env=pure none:=by rfl)
  (h1:(assignEach [.Subscript o b tpos] X.env).map (·.2)=[assign (.Subscript o b tpos) X.env]:=by rfl):QS X (.Assign [.Subscript o b tpos] e pos) (qJ te (wE to tb jP)):=⟨qK he.out (qI ho.out hi.out fM ha) hs hw h1⟩
theorem vH {i:Nat} {x y:Str} {a b:Expr} {ta:TA} {px pt:Pos} {kt k2 pt2} (hc:X.calm=true) (hN:X.N.Nodup) (hi:X.N[i]? = some x) (hj:X.N[j]? = some y) (hij:i≠j)
  (hx:X.env.scope.names.lookup x=some .local) (hy:X.env.scope.names.lookup y=some .local) (ha:QA X [a,b] ta)
  (hw:swappedStores [.Tuple [.Name x px,.Name y py] kt pt] (.Tuple [a,b] k2 pt2) X.env=pure (some [x,y]):=by rfl)
  (hs:swapsWithSole [.Tuple [.Name x px,.Name y py] kt pt] (.Tuple [a,b] k2 pt2) pos.line X.env=pure false:=by rfl) :
  QS X (.Assign [.Tuple [.Name x px,.Name y py] kt pt] (.Tuple [a,b] k2 pt2) pos) (xo i j ta):=⟨uZ hc hN hi hj hij hx hy ha.out hw hs⟩
theorem iA (hp:PassesOwn (model X.prog X.w) X.A X.env X.xe) (hc:QT X c tA) (hb:QB X sts T1):QS X (.While c sts [] pos) (qM tA T1):=⟨pv hp hc.out hb.out⟩
theorem cy (hp:PassesOwn (model X.prog X.w) X.A X.env X.xe) (hc:X.calm=true) (hi:QI X tg iter wi) (hg:QG X tg g) (hb:QB X sts T1) (hs:∀ x,foldedSetIterable iter X.env x=pure x:=by intro _; rfl):QS X (.For tg iter sts [] pos) (wF wi g T1):=⟨u5 hp hc hi.out hg.out hb.out hs⟩
theorem cH {N tgs frs:List Str} {ix:List Nat} {cl:List (Str×Addr)} (c:CompOk X N tgs frs ix scope cl) (hc:X.calm=true) (hi:QI X tg iter wi)
  (hg:∀ fp C s H,QG (aJ X N scope cl fp C s H) tg g) (he:∀ fp C s H,QE (aJ X N scope cl fp C s H) elt te)
  (hs:∀ x,foldedSetIterable iter X.env x=pure x:=by intro _; rfl) :
  QE X (.ListComp elt [⟨tg,iter,[],0⟩] scope pos) (mT wi g te tgs ix):=⟨sO c hc hi.out (λ fp C s H=>(hg fp C s H).out) (λ fp C s H=>(he fp C s H).out) hs⟩
theorem eJ:QOp X (binaryOp .Add) (rI0 λ i j=>.int (i+j)):=⟨u6⟩
theorem m5:QOp X (binaryOp .Sub) (rI0 λ i j=>.int (i - j)):=⟨u7⟩
theorem lM:QOp X (binaryOp .Mult) (rI CMul λ i j=>.int (i*j)):=⟨va⟩
theorem m6:QOp X (binaryOp .FloorDiv) (rI pP λ i j=>.int (i / j)):=⟨pQ⟩
theorem iB:QOp X (binaryOp .Mod) (rI (λ _ j=>0<j) λ i j=>.int (i % j)):=⟨vb⟩
theorem ya:QOp X (binaryOp .Pow) (rI wG λ i j=>.int (i ^ j.toNat)):=⟨vc⟩
theorem yb:QOp X (binaryOp .Add) yF:=⟨vw⟩
theorem sU:QOp X (binaryOp .Mult) yG:=⟨vx⟩
theorem uF:QOp X (compareOp .Eq) rEq:=⟨xx⟩
theorem yW:QOp X (compareOp .NotEq) rNe:=⟨xz⟩
theorem yc:QOp X (compareOp .Lt) (rI0 λ i j=>.bl (decide (i<j))):=⟨xA⟩
theorem pY:QOp X (compareOp .Gt) (rI0 λ i j=>.bl (decide (j<i))):=⟨xB⟩
theorem zK:QOp X (compareOp .GtE) (rI0 λ i j=>.bl (decide (j<=i))):=⟨xC⟩
theorem vI:QUn X (unaryOp .USub) (rU λ i=>.int (-i)):=⟨vd⟩
theorem cB {K:Ae} (hK:X.K=K:=by rfl):QIx X (wH K):=by subst hK; exact ⟨sK⟩
theorem yd {K:Ae} (hK:X.K=K:=by rfl):QIx X (wI K):=by subst hK; exact ⟨vq⟩
theorem qU:QC X (.builtin "abs") xW:=⟨vB⟩
theorem m7:QC X (.type "int") sR:=⟨vC⟩
theorem vJ (hc:X.calm=true):QC X (.builtin "min") sS:=⟨vD hc⟩
theorem bI {K:Ae} (hK:X.K=K:=by rfl):QC X (.builtin "len") (wL K):=by subst hK; exact ⟨vE⟩
theorem vK {K:Ae} (hK:X.K=K:=by rfl):QC X (.builtin "isinstance") (xX K):=by subst hK; exact ⟨vF⟩
theorem sV {K:Ae} (hK:X.K=K:=by rfl):QC X (.type "list") (jS K):=by subst hK; exact ⟨sT⟩
theorem bX {K:Ae} (hK:X.K=K:=by rfl):QC X (.type "tuple") (fN K):=by subst hK; exact ⟨pU⟩
end
section
variable {P:Program} {w:World} {K:Ae} {mg:Str->Option Value} {base:Heap}
theorem Fun.okQ {st:Stmt} {fd:FuncData} {N ps:List Str} {sp:Sp} (F:Fun K x qual st f fd) (S:FnScope N ps (ap st)) (len:∀ vs H Q E,sp vs H Q E->vs.length=ps.length)
  (hbody:∀ (cdv:Value) (A:Around) (outer:List Env) (s:Shared) (H:Hp) (vs:List V) (Q:VK) (E:XK),Room k (A.deeper (envOfC qual (ap st) s.heap.objs.size f cdv))->sp vs H Q E->
   ∃ t,QB (gP CX0 P w K mg base N qual (ap st) f cdv A outer s H E).nox (cZ st) t/\t { nx:=λ _ H'=>Q .non H',rt:=Q } (bc N vs) H):FnOk P w K mg base CX0 (k+1) f fd ps sp:=
 F.ok S len λ cdv A outer s H vs Q E hr hsp=>by
  obtain ⟨t,h,q⟩:=hbody cdv A outer s H vs Q E hr hsp
  exact ⟨t,h.out,q⟩
end
section
variable {X:Cx} {e:Expr} {te:TE} {pos p1 p2 p3:Pos} {j:Nat}
end
section
variable {X:Cx}
end
section
variable {K:Ae} {σ:St} {H:Hp} {Q:VK} {D:Ends}
theorem ye {tb:TE} (h:ta σ H λ x H1=>tb σ H1 λ y H2=>(λ x y=>∃ v w,[x,y]=[v,w]/\D.nx ((σ.set i (some v)).set j (some w)) H2) x y):xo i j (lD ta (lD tb uE)) D σ H:=h
theorem sW {x:V} {R:V->V->Prop} (h:R x y):∃ v w,[x,y]=[v,w]/\R v w:=⟨x,y,rfl,h⟩
theorem zL {r:V->List V->Hp->VK->Prop} {t:TA} {T:String} (h:to σ H λ x H1=>tyV K T x H1/\t σ H1 λ xs H2=>r x xs H2 Q):tBM K T r to t σ H Q:=h
theorem bN (s:H l=some (.lst xs)) (z:xs.length<sizeLine) (h:Q .non (upd H l (.lst (xs++[y])))):jQ (.ref l) [y] H Q:=⟨l,xs,y,rfl,rfl,s,z,h⟩
theorem cr (h:H l=some (.lst xs)):tyV K "list" (.ref l) H:=.inl ⟨rfl,_,HN h⟩
theorem Same.new {p:Addr} (e:Same H H1) (h:H1 p=none):Same H (upd H1 p o):=λ b u q=>by rw [aj (ak (e b u q) h)]; exact e b u q
theorem Same.own {p:Addr} (e:Same H H1) (h:H p=none):Same H (upd H1 p o):=λ b u q=>by rw [aj (ak q h)]; exact e b u q
end
noncomputable def Nx (n i:Nat) (P:Prop):Prop:=∃ m',m'<n - i/\m'=n - (i+1)/\i+1<=n/\P
theorem Nx.mk {P:Prop} (h:i<n) (p:P):Nx n i P:=⟨n - (i+1),by lia,rfl,h,p⟩
section
variable {K:Ae} {H:Hp} {g:TG} {te:TE} {σ0:St} {R:List V->Hp->Prop}
theorem kE (Pv:Nat->List V->St->Hp->Prop) (hz:n<sizeLine) (hl:∀ i ys σ H,Pv i ys σ H->ys.length=i) (h0:Pv 0 [] σ0 H)
  (hs:∀ i ys σ H,i<n->Pv i ys σ H->g (.int (0+i)) σ H λ σ2 H2=>te σ2 H2 λ y H3=>Nx n i (Pv (i+1) (ys++[y]) σ2 H3)) (hd:∀ ys σ H,Pv n ys σ H->R ys H) :
  ∃ W:Nat->Nat->List V->St->Hp->Prop,(∃ m,W 0 m [] σ0 H)/\∀ i m xs σc H,W i m xs σc H->xs.length<sizeLine/\
  (((Itr 0 n).stop i H/\R xs H)\/((Itr 0 n).go i H/\∀ x H',(Itr 0 n).yld i H x H'->g x σc H' λ σ2 H2=>te σ2 H2 λ y H3=>∃ m',m'<m/\W (i+1) m' (xs++[y]) σ2 H3)):=by
 refine ⟨λ i m xs σ H=>m=n - i/\i<=n/\Pv i xs σ H,⟨n,by simp,AC _,h0⟩,?_⟩
 rintro i m xs σ H ⟨rfl,hi,p⟩
 refine ⟨by rw [hl i xs σ H p]; exact By hi hz,?_⟩
 by_cases hlt:i<n
 ·refine .inr ⟨hlt,λ x H' y=>?_⟩
  obtain ⟨e,y⟩:=y
  subst e y
  exact hs i xs σ _ hlt p
 ·have e:i=n:=by lia
  subst e
  exact .inl ⟨Ai _,hd xs σ H p⟩
theorem jp {vs:List V} (Pv:Nat->List V->St->Hp->Prop) (hz:vs.length<sizeLine) (hl:∀ i ys σ H,Pv i ys σ H->ys.length=i) (ht:∀ i ys σ H,Pv i ys σ H->SqT K H a vs) (h0:Pv 0 [] σ0 H)
  (hs:∀ i ys σ H x,vs[i]? = some x->Pv i ys σ H->g x σ H λ σ2 H2=>te σ2 H2 λ y H3=>Nx vs.length i (Pv (i+1) (ys++[y]) σ2 H3)) (hd:∀ ys σ H,Pv vs.length ys σ H->R ys H) :
  ∃ W:Nat->Nat->List V->St->Hp->Prop,(∃ m,W 0 m [] σ0 H)/\∀ i m xs σc H,W i m xs σc H->xs.length<sizeLine/\
  (((Itt K a).stop i H/\R xs H)\/((Itt K a).go i H/\∀ x H',(Itt K a).yld i H x H'->g x σc H' λ σ2 H2=>te σ2 H2 λ y H3=>∃ m',m'<m/\W (i+1) m' (xs++[y]) σ2 H3)):=by
 refine ⟨λ i m xs σ H=>m=vs.length - i/\i<=vs.length/\Pv i xs σ H,⟨vs.length,by simp,AC _,h0⟩,?_⟩
 rintro i m xs σ H ⟨rfl,hi,p⟩
 have q:=ht i xs σ H p
 refine ⟨by rw [hl i xs σ H p]; exact By hi hz,?_⟩
 by_cases hlt:i<vs.length
 ·refine .inr ⟨⟨vs,vs[i],q,by simp [hlt]⟩,λ x H' y=>?_⟩
  obtain ⟨e,y⟩:=y
  subst e
  exact hs i xs σ _ x (y vs q) p
 ·have e:i=vs.length:=by lia
  subst e
  exact .inl ⟨⟨vs,q,Ai _⟩,hd xs σ H p⟩
theorem dl {vs:List V} (Pv:Nat->List V->St->Hp->Prop) (hz:vs.length<sizeLine) (hl:∀ i ys σ H,Pv i ys σ H->ys.length=i) (ht:∀ i ys σ H,Pv i ys σ H->SqL K H a vs) (h0:Pv 0 [] σ0 H)
  (hs:∀ i ys σ H x,vs[i]? = some x->Pv i ys σ H->g x σ H λ σ2 H2=>te σ2 H2 λ y H3=>Nx vs.length i (Pv (i+1) (ys++[y]) σ2 H3)) (hd:∀ ys σ H,Pv vs.length ys σ H->R ys H) :
  ∃ W:Nat->Nat->List V->St->Hp->Prop,(∃ m,W 0 m [] σ0 H)/\∀ i m xs σc H,W i m xs σc H->xs.length<sizeLine/\
  (((Itl K a).stop i H/\R xs H)\/((Itl K a).go i H/\∀ x H',(Itl K a).yld i H x H'->g x σc H' λ σ2 H2=>te σ2 H2 λ y H3=>∃ m',m'<m/\W (i+1) m' (xs++[y]) σ2 H3)):=by
 refine ⟨λ i m xs σ H=>m=vs.length - i/\i<=vs.length/\Pv i xs σ H,⟨vs.length,by simp,AC _,h0⟩,?_⟩
 rintro i m xs σ H ⟨rfl,hi,p⟩
 have q:=ht i xs σ H p
 refine ⟨by rw [hl i xs σ H p]; exact By hi hz,?_⟩
 by_cases hlt:i<vs.length
 ·refine .inr ⟨⟨vs,vs[i],q,by simp [hlt]⟩,λ x H' y=>?_⟩
  obtain ⟨e,y⟩:=y
  subst e
  exact hs i xs σ _ x (y vs q) p
 ·have e:i=vs.length:=by lia
  subst e
  exact .inl ⟨⟨vs,q,Ai _⟩,hd xs σ H p⟩
end
section
variable {X:Cx} {N tgs frs:List Str} {ix:List Nat} {scope:Scope} {cl:List (Str×Addr)}
theorem sX {spos:Pos} {y:Str} {iy:Nat} (hN:X.N.Nodup) (hy:X.N[iy]? = some y) (hx:Loc X.env.scope y) (c:CompOk X N tgs frs ix scope cl) (hc:X.calm=true) (hi:PI X tg iter wi)
  (hg:∀ fp C s H,PG (aJ X N scope cl fp C s H) tg g) (he:∀ fp C s H,PE (aJ X N scope cl fp C s H) elt te)
  (hs:∀ x,foldedSetIterable iter X.env x=pure x:=by intro _; rfl)
  (hsw:swapsWith (.ListComp elt [⟨tg,iter,[],0⟩] scope pos) (some (.Name y py)) spos.line X.env=pure true:=by rfl)
  (hf:X.fn y=true\/X.env.scope.names.lookup y=some .local:=by first | exact .inl rfl | exact .inr rfl | assumption) :
  PS X (.Assign [.Name y py] (.ListComp elt [⟨tg,iter,[],0⟩] scope pos) spos) (qJ (mT wi g te tgs ix) (il iy)):=by
 intro pins s σ H Dn I h
 rw [exec_Assign_Name_used _ _ _ _ hsw]
 refine wpAny_bind (wpAny_standAt (wpAny_bind ?_))
 show wpAny _ X.A (do let _ <-comprehension (.ListComp elt [⟨tg,iter,[],0⟩] scope pos) scope X.env _ (newList []) false (eval iter X.env) (some (assign (.Name y py) X.env))) _ _ s
 refine wpAny_bind (wpAny_mono (wpAny_comprehension_free (use:=some (assign (.Name y py) X.env)) (Q:=λ _ s'=>SP X pins Dn .next s') rfl hs c.clos c.kind c.names (thn (hi pins s σ H _ I h) λ xv s1 h1=>thn h1 λ itv s2 h2=>?_)) (λ _ s' hq=>wpAny_pure (wpAny_pure hq)) λ _ _ e=>e)
 obtain ⟨it,fp,tn,J,H2,rfl,I2,T,st2,f2,W,⟨m0,w0⟩,turn⟩:=h2
 have hfl:∀ b∈fp,b<s2.heap.objs.size:=λ b hb=>by
  obtain ⟨o,e,_⟩:=T.obj _ _ st2 b hb
  exact Am e
 have hcn:∀ x a,cl.lookup x=some a->X.env.cells.lookup x=some a:=c.cls.get
 refine wpAny_newObj_type (wpAny_newFunctionEnv c.cell (by intro y hy; simp at hy) (λ h1 hns1 hsb1=>?_) c.kind)
 dsimp only at hns1 hsb1 ⊢
 generalize hH2:s2.heap.push { cls:=.type "list",dict:=none,data:=.seq ([]:List Value).toArray }=G2 at hns1 hsb1 ⊢
 have hC:G2.objs.size=s2.heap.objs.size+1:=by rw [<-hH2,CF]
 generalize hCC:G2.objs.size=C at *
 generalize hDD:s2.heap.objs.size=D at *
 have hDC:D≠C:=by lia
 have hCle:D<=C:=by lia
 have old:∀ b o,s2.heap.get? b=some o->h1.get? b=some o:=λ b o e=>by
  have lt:b<s2.heap.objs.size:=Am e
  exact hsb1.extBut b o (AB (AA (hDD▸lt) hCle)) (Aj _ (hH2▸Aj _ e))
 have hacc:h1.get? D=some (bH [] 0):=hsb1.extBut _ _ hDC (Aj _ (hH2▸(hDD▸AW _ rfl)))
 have cellD:∀ x a,X.env.cells.lookup x=some a->a<D:=λ x a e=>by
  obtain ⟨v,q⟩:=I2.cell x a e
  exact hDD▸q.lt
 have fpc:∀ {H':Hp} {us:List Value} {k:Nat},(∀ b∈fp,H' b=none)->∀ b∈fp,mq (aJ X N scope cl fp C s2 H2) [(D,bH us k)] H' b:=λ {H' us k} hn b hb=>by
  have lb:=hfl b hb
  refine ⟨hn b hb,?_,λ z=>?_,.inl hb,λ x a e z=>?_,λ p hp=>?_⟩
  ·exact AB (AA lb hCle)
  ·rcases Al.mp (I2.stkSub b z) with e | e
   ·exact (f2 b hb).2.1 e
   ·exact (f2 b hb).2.2.1 e
  ·exact (f2 b hb).2.2.2.2.1 x a (hcn x a e) z
  ·have:p=(D,bH us k):=by simpa [aJ] using hp
   rw [this]; exact Cn lb
 have D_fs:D∉(aJ X N scope cl fp C s2 H2).fs:=λ z=>by
  rcases Al.mp (I2.stkSub D z) with e | e
  ·exact absurd I2.lt (by rw [<-e,hDD]; exact BC _)
  ·exact I2.nofs (Cp hDD) e
 have I3:=kx (tk:=s2.toks+([]:List (Str×Value)).length) (pins':=[(D,bH [] 0)]) c I2 f2 (λ b hb=>hDD▸hfl b hb) (hDD▸hCle:s2.heap.objs.size<=C) hns1 old (λ p hp=>by
  have e:p=(D,bH [] 0):=by simpa using hp
  subst e
  exact ⟨hacc,Cp hDD,hDC,λ v z=>by cases z⟩)
 have tn3:tn 0 h1:=T.keep _ _ _ st2 λ b _ o e=>old b o e
 have loop:codeAny (model X.prog X.w) X.A (.compLoop (.ListComp elt [⟨tg,iter,[],0⟩] scope pos) 0 (.ref it) (.ref D) (compEnvC scope cl C X.env))
   (compPost (model X.prog X.w) X.A X.xe (some (assign (.Name y py) X.env)) (λ _ s'=>SP X pins Dn .next s') (.ref D) C) { s2 with heap:=h1,toks:=s2.toks+([]:List (Str×Value)).length }:=by
  refine fz (λ n s'=>∃ i xs us k σc H',Inv (aJ X N scope cl fp C s2 H2) [(D,bH us k)] σc H' s'/\tn i s'.heap/\(∀ b∈fp,H' b=none)/\Vals xs us/\W i n xs σc H') ?_ m0
   ⟨0,[],[],0,_,H2,I3,tn3,λ b hb=>(f2 b hb).1,.nil,w0⟩
  rintro n s4 ⟨i,xs,us,k,σ4,H4,I4,tn4,fr4,rv,w4⟩
  obtain ⟨hsz,tt⟩:=turn i n xs σ4 H4 w4
  rcases tt with ⟨stop,fin⟩ | ⟨go,step⟩
  ·refine thn (T.done (aJ X N scope cl fp C s2 H2) rfl rfl rfl hc i _ s4 σ4 H4 _ I4 (fpc fr4) tn4 stop) λ r s5 ⟨hr,I5⟩=>?_
   subst hr
   obtain ⟨m,ns,_⟩:=I5.loc
   have J1:Inv X pins σ H4 s5:=I2.call' I5.os I5.base I5.hok I5.bare λ b hb=>⟨(f2 b hb).2.2.2.1,(f2 b hb).2.1,(f2 b hb).2.2.2.2.1,(f2 b hb).2.2.2.2.2⟩
   have big:∀ a,D<=a->a≠X.env.locals/\(a∈X.ex\/X.s₀.heap.objs.size<=a)/\(∀ x y,X.env.cells.lookup x=some y->y≠a)/\∀ p∈X.pn++pins,p.1≠a:=λ a ha=>by
    obtain ⟨q0,q1,q2,q3,q4,q5⟩:=I2.fpOk (b:=a) (H':=λ _=>none) (hDD▸ha) rfl
    exact ⟨q1,q3,q4,q5⟩
   have nfs:∀ a,D<=a->a∉X.fs:=λ a ha=>I2.nofs (hDD▸ha)
   obtain ⟨b1,b2,b3,b4⟩:=big C hCle
   obtain ⟨p1,p2,p3,p4,p5⟩:=I5.pin (D,bH us k) (by simp)
   obtain ⟨d1,d2,d3,d4⟩:=big D (Ai _)
   have J3:Inv X pins σ (upd H4 D (.lst xs)) s5:=J1.adopt p2 d1 d2 d3 d4 ⟨BY hsz,us,k,rv,p1⟩
   obtain ⟨oC,esC,epC,hoC,hdC,rC⟩:=id ns
   have hHC:(upd H4 D (.lst xs)) C=none:=by rw [aj (AV hDC)]; exact I5.free
   have J4:Inv X (pins++[(C,oC)]) σ (upd H4 D (.lst xs)) s5:=J3.pins_of λ p hp=>by
    rcases AO.mp hp with z | z
    ·exact J3.pin p (AD _ z)
    ·have e:p=(C,oC):=by simpa using z
     subst e
     exact ⟨hoC,hHC,b1,nfs C hCle,λ v z=>by rw [hdC] at z; cases z⟩
   show wpAny _ X.A (assign (.Name y py) X.env (.ref D)) _ _ s5
   refine wpAny_assign_Name (di J4 hN hy hx (v:=.ref D) rfl (λ s6 J5=>?_) hf)
   have hC6:=(J5.pin (C,oC) (AD _ (AD _ (by simp)))).1
   refine ⟨m,⟨oC,esC,epC,hC6,hdC,rC⟩,λ h' sb=>?_⟩
   have J6:Inv X pins (σ.set iy (some (.ref D))) (upd H4 D (.lst xs)) s6:=J5.unpinned
   have J7:Inv X pins (σ.set iy (some (.ref D))) (upd H4 D (.lst xs)) { s6 with heap:=h' }:=J6.turned (t':=s6.toks) (λ b o hb e=>sb.extBut b o hb e) hHC b1 b2 b3 b4
   exact ⟨_,_,J7,fin D p2⟩
  ·refine thn (T.item (aJ X N scope cl fp C s2 H2) rfl rfl rfl hc i _ s4 σ4 H4 _ I4 (fpc fr4) tn4 go) λ r s5 ⟨u,hr,h5⟩=>?_
   subst hr
   refine thn h5 λ _ s6 ⟨x,H6,I6,r6,y6,tn6,fr6⟩=>?_
   have I6':=I6.pinned (fpc fr6) (T.obj _ _ tn6)
   refine thn (hg fp C s2 H2 _ s6 σ4 H6 x u _ I6' r6 (step x H6 y6)) λ _ s7 ⟨σ7,H7,I7,q7⟩=>?_
   refine thn (he fp C s2 H2 _ s7 σ7 H7 _ I7 q7) λ yv s8 ⟨y,H8,I8,r8,m',hm,w8⟩=>?_
   obtain ⟨p1,p2,p3,p4,p5⟩:=I8.pin (D,bH us k) (by simp [aJ])
   have hsz':us.toArray.size<=sizeLine:=by simp; rw [<-rv.length]; exact BY hsz
   refine wpAny_list_append_plain (hsz:=hsz') ⟨k,p1⟩ λ h' pl sb=>?_
   have tn8:tn (i+1) s8.heap:=T.keep _ _ _ tn6 λ b hb o e=>(I8.pin (b,o) (AD _ (AD _ (cF hb e)))).1
   have fr8:∀ b∈fp,H8 b=none:=λ b hb=>by
    obtain ⟨o,e,d⟩:=T.obj _ _ tn6 b hb
    exact (I8.pin (b,o) (AD _ (AD _ (cF hb e)))).2.1
   have I9:Inv (aJ X N scope cl fp C s2 H2) [] σ7 H8 s8:=I8.pins_of λ p hp=>nomatch hp
   have I10:Inv (aJ X N scope cl fp C s2 H2) [] σ7 H8 { s8 with heap:=h' }:=I9.turned (t':=s8.toks) (it:=D) (λ b o hb e=>sb.extBut b o hb e) p2 p3 (.inr (Cp hDD))
    (λ x a e=>AB (cellD x a (hcn x a e))) (λ p hp=>by simp [aJ] at hp)
   obtain ⟨k',pl⟩:=pl
   have eu:us.toArray.push yv=(us++[yv]).toArray:=by simp
   rw [eu] at pl
   have I11:Inv (aJ X N scope cl fp C s2 H2) [(D,bH (us++[yv]) k')] σ7 H8 { s8 with heap:=h' }:=I10.pins_of λ p hp=>by
    have e:p=(D,bH (us++[yv]) k'):=by simpa using hp
    subst e
    exact ⟨pl,p2,p3,p4,λ v z=>by cases z⟩
   exact ⟨m',hm,i+1,xs++[y],us++[yv],k',σ7,H8,I11,T.keep _ _ _ tn8 λ b hb o e=>sb.extBut b o (AB (hfl b hb)) e,fr8,rv.append (.cons r8 .nil),w8⟩
 exact codeAny_compStart_list loop (T.self _ 0 _ _ _ tn3 loop)
end
section
variable {X:Cx} {N tgs frs:List Str} {ix:List Nat} {scope:Scope} {cl:List (Str×Addr)}
theorem m8 {spos:Pos} {y:Str} (hN:X.N.Nodup) (hy:X.N[i]? = some y) (hx:Loc X.env.scope y) (c:CompOk X N tgs frs ix scope cl) (hc:X.calm=true) (hi:QI X tg iter wi)
  (hg:∀ fp C s H,QG (aJ X N scope cl fp C s H) tg g) (he:∀ fp C s H,QE (aJ X N scope cl fp C s H) elt te)
  (hs:∀ x,foldedSetIterable iter X.env x=pure x:=by intro _; rfl)
  (hsw:swapsWith (.ListComp elt [⟨tg,iter,[],0⟩] scope pos) (some (.Name y py)) spos.line X.env=pure true:=by rfl)
  (hf:X.fn y=true\/X.env.scope.names.lookup y=some .local:=by first | exact .inl rfl | exact .inr rfl | assumption) :
  QS X (.Assign [.Name y py] (.ListComp elt [⟨tg,iter,[],0⟩] scope pos) spos) (qJ (mT wi g te tgs ix) (il i)):=
 ⟨sX hN hy hx c hc hi.out (λ fp C s H=>(hg fp C s H).out) (λ fp C s H=>(he fp C s H).out) hs hsw hf⟩
end
section
variable {prog:Program} {w:World} {A:Around} {E:Value->Shared->Prop} {s:Shared}
end
section
variable {X:Cx} {pos:Pos} {u:TGs}
end
theorem bY {α:Type} {xs:List α} {x:α} {y:α} (h:(xs++[x])[i]? = some y):(i<xs.length/\xs[i]? = some y)\/(i=xs.length/\y=x):=by
 rcases DU i xs.length with l | l | l
 ·rw [AX l] at h; exact .inl ⟨l,h⟩
 ·subst l; simp at h; exact .inr ⟨rfl,h.symm⟩
 ·rw [Dl (by simp; lia)] at h; cases h
section
variable {X:Cx} {pins:List (Addr×Obj)} {σ:St} {H:Hp} {s:Shared} {h':Heap}
theorem Inv.turnedAll (I:Inv X pins σ H s) (k:∀ b o,b∉ch->s.heap.get? b=some o->h'.get? b=some o) (hf:∀ b∈ch,mq X pins H b):Inv X pins σ H { s with heap:=h',toks:=t' }:=by
 have nit:∀ b u,H b=some u->b∉ch:=λ b u e z=>by rw [(hf b z).1] at e; cases e
 refine I.step (g':=s.gens) (d':=s.drawn) (ch:=ch) (λ b hb=>?_) (λ b o _ _ hc e _=>k b o hc e) (λ b o _ _ hc e _=>⟨o.slots,k b o hc e⟩) (λ _ _ _ _ n=>n)
  (λ b o hc e=>⟨o,k b o hc e⟩) (λ _ _ e=>e) (λ _ _ _ e=>e) (λ b ps e=>⟨#[],by rw [e]; simp⟩) (λ m hm=>?_) (λ b u e=>?_) I.bare
 ·obtain ⟨_,f1,_,f3,f4,f5⟩:=hf b hb
  exact ⟨f3,f1,f4,f5⟩
 ·obtain ⟨o,es,ep,q,r⟩:=hm
  exact ⟨o,es,ep,k _ o (λ z=>(hf _ z).2.1 rfl) q,r⟩
 ·refine (I.hok b u e).stay (λ c v hc q=>k c v ?_ q) (λ _ q=>q) λ _ _ q=>q
  rcases hc with z | z
  ·rw [z]; exact nit b u e
  ·exact nit c _ z
end
section
variable {X:Cx}
end
section
variable {K:Ae} {H:Hp} {Q:VK}
end
section
variable {prog:Program} {w:World} {A:Around} {E:Value->Shared->Prop} {s:Shared}
theorem lN {it:Addr} {vs:Array Value} {x:Value} (a1:s.heap.IsTupleIter it t i) (a2:s.heap.IsTuple t vs) (a3:vs[i]? = some x)
  (a4:∀ g,g.IsTupleIter it t (i+1)->D4 it s.heap g->Q x { s with heap:=g }):wpAny (model prog w) A (Ci (.ref it)) Q E s:=by
 have ty:=a1.typeIs
 obtain ⟨u,e1,e2,e3⟩:=a1
 obtain ⟨v,f1,_,m,f3⟩:=a2
 unfold Ci
 refine wpAny_bind (wpAny_callSpecial?_slot (name:=Dr "__next__") ty Ca (wpAny_call_entry Ca ty DG ?_ (DA _)))
 show wpAny _ _ (DE (.ref it) 0 >>= _) _ _ s
 refine wpAny_bind (wpAny_field e1 e3 (x:=.ref t) rfl ?_)
 show wpAny _ _ (ite ((Aw t == AT)=true) _ _) _ _ s
 rw [if_neg (λ z:(Aw t == AT)=true=>Ao z)]
 show wpAny _ _ (DE (.ref it) 1 >>= _) _ _ s
 refine wpAny_bind (wpAny_field e1 e3 (x:=.int i 0) rfl ?_)
 show wpAny _ _ (FT (.ref t) >>= _) _ _ s
 refine wpAny_bind (wpAny_seqItems f1 f3 ?_)
 simp only [a3,CD]
 refine wpAny_bind (wpAny_setField e1 e3 (by simp) (wpAny_pure ⟨x,rfl,wpAny_pure (a4 _ ?_ (ES ..))⟩))
 refine ⟨_,BS _ e1 (Obj.isFreed_of_fields (E6 e3 _)),(Obj.cls_mapFields ..).trans e2,?_⟩
 rw [E6 e3]
 simp [rawInt]
theorem m9 {it:Addr} {vs:Array Value} (hh:A.handled=none) (a1:s.heap.IsTupleIter it t i) (a2:s.heap.IsTuple t vs) (a3:vs[i]? = none)
  (a4:∀ g e,Heap.ExtBut it s.heap g->(∃ o,g.get? e=some o/\o.cls=.type "StopIteration")->E (.ref e) { s with heap:=g }):wpAny (model prog w) A (Ci (.ref it)) Q E s:=by
 have ty:=a1.typeIs
 obtain ⟨u,e1,e2,e3⟩:=a1
 obtain ⟨v,f1,_,m,f3⟩:=a2
 unfold Ci
 refine wpAny_bind (wpAny_callSpecial?_slot (name:=Dr "__next__") ty Ca (wpAny_call_entry Ca ty DG ?_ (DA _)))
 show wpAny _ _ (DE (.ref it) 0 >>= _) _ _ s
 refine wpAny_bind (wpAny_field e1 e3 (x:=.ref t) rfl ?_)
 show wpAny _ _ (ite ((Aw t == AT)=true) _ _) _ _ s
 rw [if_neg (λ z:(Aw t == AT)=true=>Ao z)]
 show wpAny _ _ (DE (.ref it) 1 >>= _) _ _ s
 refine wpAny_bind (wpAny_field e1 e3 (x:=.int i 0) rfl ?_)
 show wpAny _ _ (FT (.ref t) >>= _) _ _ s
 refine wpAny_bind (wpAny_seqItems f1 f3 ?_)
 simp only [a3,CD]
 refine wpAny_bind (wpAny_rule (wpAny_bind (wpAny_setField e1 e3 (by simp) ?_)))
 show wpAny _ _ (PySem.newExc (.type "StopIteration") [] >>= _) _ _ _
 refine wpAny_bind ?_
 simp only [newTuple,newExc]
 refine wpAny_bind (wpAny_newObj_type ?_ (by size_fits))
 refine wpAny_bind (m:=PySem.firstArgMember _ _) (wpAny_of_eq (a:=AT) (by first | rfl | (simp only [firstArgMember]; rfl)) ?_)
 refine wpAny_newObj_type ?_ (by size_fits)
 simp only [raiseNew]
 refine wpAny_bind (wpAny_handled ?_)
 first
  | rw [show A.in1.handled=none from hh]
  | rw [hh]
 refine wpAny_bind (wpAny_pure (wpAny_throw ?_))
 exact a4 _ _ (((ES ..).extBut.push _).push _) ⟨_,AW _ rfl,rfl⟩
theorem qV (hh:A.handled=none) (it t:Addr) (hne:t≠it) (vs:Array Value) :
  Draws prog w A it [it,t] vs.size (λ i v=>vs[i]? = some v) (λ i h=>h.IsTupleIter it t i/\h.IsTuple t vs) where
 live:=λ _ _ st=>by obtain ⟨⟨o,q,_⟩,_⟩:=st; exact ⟨o,q⟩
 frame:=λ _ _ _ st k=>by
  obtain ⟨⟨o,q,r⟩,⟨o',q',r'⟩⟩:=st
  exact ⟨⟨o,k it (by simp) o q,r⟩,⟨o',k t (by simp) o' q',r'⟩⟩
 item:=λ i s Q E hi st q=>lN st.1 st.2 (x:=vs[i]) (by simp [hi]) λ g b c=>q _ g s.toks (by simp [hi]) ⟨b,st.2.extBut c.extBut hne⟩ c
 done:=λ s Q E st q=>m9 hh st.1 st.2 (by simp) q
theorem pZ (l:Addr) (items:Array Value) (n:Nat) (dct:Option Addr) (sl:Array (Option Value)) :
  Meets (Builtin.«enumerate.__new__» ⟨[.type "enumerate",.ref l],[]⟩) (λ _ R s=>s.heap.get? l=some { cls:=.type "tuple",dict:=dct,data:=.seq items n,slots:=sl }/\
   R (.ok (.ret (.ref (s.heap.push { cls:=.type "tuple_iterator",data:=.fields #[.ref l,.int 0 0] }).objs.size)))
    { s with heap:=(s.heap.push { cls:=.type "tuple_iterator",data:=.fields #[.ref l,.int 0 0] }).push { cls:=.type "enumerate",data:=.fields #[.none,.bool false,.ref s.heap.objs.size,rawInt 0,.none,.none] } }):=
 .of_wp λ prog w A R s h=>by
  obtain ⟨q1,q2,q3,q4,q5⟩:=s
  obtain ⟨hT,h⟩:=h
  have sub:=sub_enumerate
  have hI:Heap.IsTuple (Shared.heap ⟨q1,q2,q3,q4,q5⟩) l items:=⟨_,hT,rfl,n,rfl⟩
  wp_walk using C1 hT
  refine wpAny_stack_any λ _=>wpAny_pure ?_
  split
  ·rename_i c _ _ _ _ _
   cases (c == BX "enumerate")<;>(wp_walk using C1 hT,wpAny_pyIter_tuple hI; exact ⟨_,rfl,h⟩)
  ·wp_walk using C1 hT,wpAny_pyIter_tuple hI
   exact ⟨_,rfl,h⟩
theorem na (hL:s.heap.IsTuple l items)
  (h:∀ g,IsEnum g (s.heap.objs.size+1) s.heap.objs.size 0 .none->g.IsTupleIter s.heap.objs.size l 0->(∀ b o,s.heap.get? b=some o->g.get? b=some o)->Q (.ref (s.heap.objs.size+1)) { s with heap:=g }) :
  wpAny (model prog w) A (call (.type "enumerate") [.ref l]) Q E s:=by
 obtain ⟨⟨c,dct,dt,sl⟩,e1,e2,n,e3⟩:=hL
 have e2':c=.type "tuple":=e2
 have e3':dt=.seq items n:=e3
 subst e2' e3'
 refine callType_new F.called_enumerate (by decide) (F.typeCall_enumerate_1 _) (F.newCall_enumerate_1 _) (λ obj=>F.args_object_init_2 obj _) F.entry_enumerate_new (pZ l items n dct sl) ⟨e1,?_⟩
 have z1:(s.heap.push { cls:=.type "tuple_iterator",data:=.fields #[.ref l,.int 0 0] }).objs.size=s.heap.objs.size+1:=CF ..
 have z2:=AW (s.heap.push { cls:=.type "tuple_iterator",data:=.fields #[.ref l,.int 0 0] }) (o:={ cls:=.type "enumerate",data:=.fields #[.none,.bool false,.ref s.heap.objs.size,rawInt 0,.none,.none] }) rfl
 rw [z1] at z2
 show _/\_
 rw [z1]
 exact ⟨⟨_,z2,rfl⟩,h _ z2 ⟨_,Aj _ (AW _ rfl),rfl,rfl⟩ λ b o x=>Aj _ (Aj _ x)⟩
end
noncomputable def yf (K:Ae) (a:Addr):It:=
 ⟨λ i H=>∃ xs x,SqL K H a xs/\xs[i]? = some x,λ i H v H'=>∃ p x,v=.ref p/\H p=none/\H'=upd H p (.tup [.int i,x])/\∀ xs,SqL K H a xs->xs[i]? = some x,λ i H=>∃ xs,SqL K H a xs/\xs.length=i⟩
noncomputable def yg (K:Ae) (a:Addr):It:=
 ⟨λ i H=>∃ xs x,SqT K H a xs/\xs[i]? = some x,λ i H v H'=>∃ p x,v=.ref p/\H p=none/\H'=upd H p (.tup [.int i,x])/\∀ xs,SqT K H a xs->xs[i]? = some x,λ i H=>∃ xs,SqT K H a xs/\xs.length=i⟩
theorem df {o u:Obj} {x y:String} (e1:h.get? a=some o) (c1:o.cls=.type x) (e2:h.get? b=some u) (c2:u.cls=.type y) (hn:x≠y):a≠b:=λ z=>by
 subst z
 rw [e1] at e2
 cases e2
 rw [c1] at c2
 exact hn (by injection c2)
theorem Inv.pair {H:Hp} {s:Shared} {g:Heap} {tk:Nat} {v:Value} {x:V} (I:Inv X pins σ H s) (k:∀ b o,b∉ch->s.heap.get? b=some o->g.get? b=some o) (hf:∀ b∈ch,mq X pins H b)
  (hg:g.get? s.heap.objs.size=some { cls:=.type "tuple",data:=.seq #[u,v] }) (rx:RelV x u) (ry:RelV y v):Inv X pins σ (upd H s.heap.objs.size (.tup [x,y])) { s with heap:=g,toks:=tk }/\H s.heap.objs.size=none:=by
 have I1:Inv X pins σ H { s with heap:=g,toks:=tk }:=I.turnedAll k hf
 have hn:H s.heap.objs.size=none:=I.hok.fresh (Ai _)
 obtain ⟨_,f1,f2,f3,f4,f5⟩:=I.fpOk (Ai _) hn
 refine ⟨I1.adopt hn f1 f3 f4 f5 ?_,hn⟩
 exact ⟨by show 2<=sizeLine; decide,[u,v],.cons rx (.cons ry .nil),⟨_,hg,rfl,_,rfl⟩⟩
theorem lO {w:World} {K:Ae} {elts:List Expr} (a e it:Addr) (hei:e≠it):Turn P w K (.Tuple elts k pos) (yf K a) [e,it] e (λ i h=>(∃ old,IsEnum h e it i old)/\h.IsListIter it a i) where
 mem:=by simp
 obj:=λ i h st b hb=>by
  obtain ⟨⟨old,q⟩,o,q1,q2,q3⟩:=st
  simp only [Al,Bd,or_false] at hb
  rcases hb with rfl | rfl
  ·exact ⟨_,q,λ v z=>by cases z⟩
  ·exact ⟨o,q1,λ v z=>by rw [q3] at z; cases z⟩
 keep:=λ i h h' st kk=>by
  obtain ⟨⟨old,q⟩,o,q1,q2⟩:=st
  exact ⟨⟨old,kk e (by simp) _ q⟩,o,kk it (by simp) o q1,q2⟩
 item:=by
  intro X hP hw hK hc i pins s σ H E I hf st hg
  subst hP hw hK
  obtain ⟨xs,x,hq,hx⟩:=hg
  obtain ⟨its,rv,p,hz⟩:=I.list hq
  obtain ⟨u,hu,ru⟩:=rv.get hx
  have hl:=rv.length
  have hil:i<its.toArray.size:=by have:=(AH.mp hu).1; simpa using this
  obtain ⟨⟨old,q⟩,q2⟩:=st
  have hne:a≠it:=by
   obtain ⟨o1,g1,g2,_⟩:=p.isList
   obtain ⟨o2,g3,g4,_⟩:=q2
   exact df g1 g2 g3 g4 (by decide)
  have hea:e≠a:=by
   obtain ⟨o1,g1,g2,_⟩:=p.isList
   exact df q rfl g1 g2 (by decide)
  refine wpAny_pyNext_enum_itemD (Hd (A:=X.A.in1) (I.ok.hd hc) it a hne its.toArray) q ⟨q2,p.isList⟩ hil hei (by simp [hei,hea]) λ y h' tk hP ho hs' hT hsz hk=>⟨_,rfl,wpAny_letOwnedTupleGo_enum ho λ g he' sb=>?_⟩
  have ey:y=u:=by
   have h1:its.toArray[i]? = some u:=by simpa using hu
   exact Ba (hP.symm.trans h1)
  subst ey
  have hTe:s.heap.objs.size≠e:=Cn (Am q)
  have lt2:it<s.heap.objs.size:=by obtain ⟨o2,g3,_⟩:=q2; exact Am g3
  obtain ⟨I2,hn⟩:=I.pair (g:=g) (tk:=tk+1) (ch:=[e,it]) (x:=.int i) (y:=x) (λ b o hb r=>(sb.2 b (λ z=>hb (by simp [z]))).trans (hk b o (λ z=>hb (by simp [z])) (λ z=>hb (by simp [z])) r)) hf ((sb.2 _ hTe).trans hT) ⟨tk,rfl⟩ ru
  refine ⟨.ref s.heap.objs.size,_,I2,rfl,⟨_,x,rfl,hn,rfl,λ ys hy=>by rw [I.list_inj hy hq]; exact hx⟩,⟨⟨_,by simpa using he'⟩,hs'.1.at λ o r=>(sb.2 it hei.symm).trans r⟩,λ b hb=>?_⟩
  simp only [Al,Bd,or_false] at hb
  rcases hb with rfl | rfl
  ·rw [aj hTe.symm]; exact (hf _ (by simp)).1
  ·rw [aj (AB lt2)]; exact (hf _ (by simp)).1
 done:=by
  intro X hP hw hK hc i pins s σ H E I hf st hg
  subst hP hw hK
  obtain ⟨xs,hq,hx⟩:=hg
  obtain ⟨its,rv,p,hz⟩:=I.list hq
  obtain ⟨⟨old,q⟩,q2⟩:=st
  have hl:=rv.length
  have hne:a≠it:=by
   obtain ⟨o1,g1,g2,_⟩:=p.isList
   obtain ⟨o2,g3,g4,_⟩:=q2
   exact df g1 g2 g3 g4 (by decide)
  have hi:its.toArray.size=i:=by simp; lia
  subst hi
  refine wpAny_pyNext_enum_endD (Hd (A:=X.A.in1) (I.ok.hd hc) it a hne its.toArray) q ⟨q2,p.isList⟩ λ h' eb=>⟨rfl,I.turnedAll (t':=s.toks) (ch:=[it]) (λ b o hb r=>eb b o (λ z=>hb (by simp [z])) r) λ b hb=>hf b (by simp at hb; simp [hb])⟩
 self:=λ _ _ _ _ _ st h=>by
  obtain ⟨⟨old,q⟩,_⟩:=st
  exact wpAny_pyIter_enum q h
theorem lP {w:World} {K:Ae} {elts:List Expr} (a e it:Addr) (hei:e≠it):Turn P w K (.Tuple elts k pos) (yg K a) [e,it] e (λ i h=>(∃ old,IsEnum h e it i old)/\h.IsTupleIter it a i) where
 mem:=by simp
 obj:=λ i h st b hb=>by
  obtain ⟨⟨old,q⟩,o,q1,q2,q3⟩:=st
  simp only [Al,Bd,or_false] at hb
  rcases hb with rfl | rfl
  ·exact ⟨_,q,λ v z=>by cases z⟩
  ·exact ⟨o,q1,λ v z=>by rw [q3] at z; cases z⟩
 keep:=λ i h h' st kk=>by
  obtain ⟨⟨old,q⟩,o,q1,q2⟩:=st
  exact ⟨⟨old,kk e (by simp) _ q⟩,o,kk it (by simp) o q1,q2⟩
 item:=by
  intro X hP hw hK hc i pins s σ H E I hf st hg
  subst hP hw hK
  obtain ⟨xs,x,hq,hx⟩:=hg
  obtain ⟨its,rv,p,hz⟩:=I.tuple hq
  have p:s.heap.IsTuple a its.toArray:=p
  obtain ⟨u,hu,ru⟩:=rv.get hx
  have hl:=rv.length
  have hil:i<its.toArray.size:=by have:=(AH.mp hu).1; simpa using this
  obtain ⟨⟨old,q⟩,q2⟩:=st
  have hne:a≠it:=by
   obtain ⟨o1,g1,g2,_⟩:=p
   obtain ⟨o2,g3,g4,_⟩:=q2
   exact df g1 g2 g3 g4 (by decide)
  have hea:e≠a:=by
   obtain ⟨o1,g1,g2,_⟩:=p
   exact df q rfl g1 g2 (by decide)
  refine wpAny_pyNext_enum_itemD (qV (A:=X.A.in1) (I.ok.hd hc) it a hne its.toArray) q ⟨q2,p⟩ hil hei (by simp [hei,hea]) λ y h' tk hP ho hs' hT hsz hk=>⟨_,rfl,wpAny_letOwnedTupleGo_enum ho λ g he' sb=>?_⟩
  have ey:y=u:=by
   have h1:its.toArray[i]? = some u:=by simpa using hu
   exact Ba (hP.symm.trans h1)
  subst ey
  have hTe:s.heap.objs.size≠e:=Cn (Am q)
  have lt2:it<s.heap.objs.size:=by obtain ⟨o2,g3,_⟩:=q2; exact Am g3
  obtain ⟨I2,hn⟩:=I.pair (g:=g) (tk:=tk+1) (ch:=[e,it]) (x:=.int i) (y:=x) (λ b o hb r=>(sb.2 b (λ z=>hb (by simp [z]))).trans (hk b o (λ z=>hb (by simp [z])) (λ z=>hb (by simp [z])) r)) hf ((sb.2 _ hTe).trans hT) ⟨tk,rfl⟩ ru
  refine ⟨.ref s.heap.objs.size,_,I2,rfl,⟨_,x,rfl,hn,rfl,λ ys hy=>by rw [I.tuple_inj hy hq]; exact hx⟩,⟨⟨_,by simpa using he'⟩,?_⟩,λ b hb=>?_⟩
  ·obtain ⟨o,r1,r2⟩:=hs'.1
   exact ⟨o,(sb.2 it hei.symm).trans r1,r2⟩
  simp only [Al,Bd,or_false] at hb
  rcases hb with rfl | rfl
  ·rw [aj hTe.symm]; exact (hf _ (by simp)).1
  ·rw [aj (AB lt2)]; exact (hf _ (by simp)).1
 done:=by
  intro X hP hw hK hc i pins s σ H E I hf st hg
  subst hP hw hK
  obtain ⟨xs,hq,hx⟩:=hg
  obtain ⟨its,rv,p,hz⟩:=I.tuple hq
  have p:s.heap.IsTuple a its.toArray:=p
  obtain ⟨⟨old,q⟩,q2⟩:=st
  have hl:=rv.length
  have hne:a≠it:=by
   obtain ⟨o1,g1,g2,_⟩:=p
   obtain ⟨o2,g3,g4,_⟩:=q2
   exact df g1 g2 g3 g4 (by decide)
  have hi:its.toArray.size=i:=by simp; lia
  subst hi
  refine wpAny_pyNext_enum_endD (qV (A:=X.A.in1) (I.ok.hd hc) it a hne its.toArray) q ⟨q2,p⟩ λ h' eb=>⟨rfl,I.turnedAll (t':=s.toks) (ch:=[it]) (λ b o hb r=>eb b o (λ z=>hb (by simp [z])) r) λ b hb=>hf b (by simp at hb; simp [hb])⟩
 self:=λ _ _ _ _ _ st h=>by
  obtain ⟨⟨old,q⟩,_⟩:=st
  exact wpAny_pyIter_enum q h
noncomputable def Itz (K:Ae) (a b:Addr):It:=
 ⟨λ i H=>∃ xs ys x y,SqL K H a xs/\SqL K H b ys/\xs[i]? = some x/\ys[i]? = some y,λ i H v H'=>∃ p x y,v=.ref p/\H p=none/\H'=upd H p (.tup [x,y])/\(∀ xs,SqL K H a xs->xs[i]? = some x)/\∀ ys,SqL K H b ys->ys[i]? = some y,λ i H=>∃ xs ys,SqL K H a xs/\SqL K H b ys/\(xs.length<=i\/ys.length<=i)⟩
theorem p6 {w:World} {K:Ae} {elts:List Expr} (a b z TI TO i1 i2:Addr) (D:ZipApart z TI TO i1 i2 a b) :
  Turn P w K (.Tuple elts k pos) (Itz K a b) [z,TI,TO,i1,i2] z (λ i h=>IsZip h z TI TO .none/\IsPair h TI (.ref i1) (.ref i2)/\(∃ u v,IsPair h TO u v)/\h.IsListIter i1 a i/\h.IsListIter i2 b i) where
 mem:=by simp
 obj:=λ i h st c hb=>by
  obtain ⟨q1,q2,⟨u,v,q3⟩,⟨o4,q4,_,d4⟩,⟨o5,q5,_,d5⟩⟩:=st
  simp only [Al,Bd,or_false] at hb
  rcases hb with rfl | rfl | rfl | rfl | rfl
  ·exact ⟨_,q1,λ v z=>by cases z⟩
  ·exact ⟨_,q2,λ v z=>by cases z⟩
  ·exact ⟨_,q3,λ v z=>by cases z⟩
  ·exact ⟨o4,q4,λ v z=>by rw [d4] at z; cases z⟩
  ·exact ⟨o5,q5,λ v z=>by rw [d5] at z; cases z⟩
 keep:=λ i h h' st kk=>by
  obtain ⟨q1,q2,⟨u,v,q3⟩,⟨o4,q4,r4⟩,⟨o5,q5,r5⟩⟩:=st
  exact ⟨kk z (by simp) _ q1,kk TI (by simp) _ q2,⟨u,v,kk TO (by simp) _ q3⟩,⟨o4,kk i1 (by simp) _ q4,r4⟩,⟨o5,kk i2 (by simp) _ q5,r5⟩⟩
 item:=by
  intro X hP hw hK hc i pins s σ H E I hf st hg
  subst hP hw hK
  obtain ⟨xs,ys,x,y,hqx,hqy,hx,hy⟩:=hg
  obtain ⟨its,rv,p,hz⟩:=I.list hqx
  obtain ⟨jts,rw',p',hz'⟩:=I.list hqy
  obtain ⟨u,hu,ru⟩:=rv.get hx
  obtain ⟨v,hv,rv'⟩:=rw'.get hy
  obtain ⟨q1,q2,⟨u3,v3,q3⟩,q4,q5⟩:=st
  have l1:=Am q1
  have l2:=Am q2
  have l3:=Am q3
  have l4:i1<s.heap.objs.size:=by obtain ⟨o,g,_⟩:=q4; exact Am g
  have l5:i2<s.heap.objs.size:=by obtain ⟨o,g,_⟩:=q5; exact Am g
  refine wpAny_pyNext_zip_item D q1 q2 q3 q4 q5 p.isList p'.isList (x:=u) (y:=v) (by simpa using hu) (by simpa using hv) λ h' a1 a2 a3 a4 a5 a6 a7=>⟨_,rfl,wpAny_letOwnedTupleGo_zip a1 λ g hz2 sb=>?_⟩
  obtain ⟨I2,hn⟩:=I.pair (g:=g) (tk:=s.toks) (ch:=[z,TO,i1,i2]) (x:=x) (y:=y) (λ c o hb r=>(sb.2 c (λ e=>hb (by simp [e]))).trans (a7 c o (λ e=>hb (by simp [e])) (λ e=>hb (by simp [e])) (λ e=>hb (by simp [e])) (λ e=>hb (by simp [e])) r)) (λ c hb=>hf c (by simp at hb; rcases hb with e | e | e | e<;>simp [e])) ((sb.2 _ (Cn l1)).trans a5) ru rv'
  refine ⟨.ref s.heap.objs.size,_,I2,rfl,⟨_,x,y,rfl,hn,rfl,λ zs h=>by rw [I.list_inj h hqx]; exact hx,λ zs h=>by rw [I.list_inj h hqy]; exact hy⟩,⟨hz2,?_,⟨_,_,(sb.2 _ D.TOz).trans a2⟩,a3.at λ o r=>(sb.2 i1 D.i1z).trans r,a4.at λ o r=>(sb.2 i2 D.i2z).trans r⟩,λ c hb=>?_⟩
  ·exact (sb.2 _ D.TIz).trans (a7 TI _ D.TIz D.TITO D.TIi1 D.TIi2 q2)
  ·have hc0:=(hf c hb).1
   simp only [Al,Bd,or_false] at hb
   have:c<s.heap.objs.size:=by rcases hb with rfl | rfl | rfl | rfl | rfl<;>assumption
   rw [aj (AB this)]; exact hc0
 done:=by
  intro X hP hw hK hc i pins s σ H E I hf st hg
  subst hP hw hK
  obtain ⟨xs,ys,hqx,hqy,hx⟩:=hg
  obtain ⟨its,rv,p,hz⟩:=I.list hqx
  obtain ⟨jts,rw',p',hz'⟩:=I.list hqy
  have m1:=rv.length
  have m2:=rw'.length
  obtain ⟨q1,q2,⟨u3,v3,q3⟩,q4,q5⟩:=st
  refine wpAny_pyNext_zip_end (I.ok.hd hc) D q1 q2 q3 q4 q5 p.isList p'.isList ?_ λ h' kk=>⟨rfl,I.turnedAll (t':=s.toks) (ch:=[z,TO,i1,i2]) (λ c o hb r=>kk c o (λ e=>hb (by simp [e])) (λ e=>hb (by simp [e])) (λ e=>hb (by simp [e])) (λ e=>hb (by simp [e])) r) (λ c hb=>hf c (by simp at hb; rcases hb with e | e | e | e<;>simp [e]))⟩
  rcases hx with h | h
  ·exact .inl (by simp; lia)
  ·exact .inr (by simp; lia)
 self:=λ _ _ _ _ _ st h=>wpAny_pyIter_zip st.1 h
section
variable {X:Cx} {a b:Expr} {t:TA} {p pos tpos:Pos} {ts:List Expr} {k:Nat}
noncomputable def qW (K:Ae) (t:TA):TI:=λ σ H R=>t σ H λ vs H1=>∃ a,vs=[.ref a]/\(∃ xs,SqL K H1 a xs)/\R (yf K a) H1
noncomputable def qX (K:Ae) (t:TA):TI:=λ σ H R=>t σ H λ vs H1=>∃ a,vs=[.ref a]/\(∃ xs,SqT K H1 a xs)/\R (yg K a) H1
noncomputable def zM (K:Ae) (t:TA):TI:=λ σ H R=>t σ H λ vs H1=>∃ a b,vs=[.ref a,.ref b]/\(∃ xs,SqL K H1 a xs)/\(∃ ys,SqL K H1 b ys)/\R (Itz K a b) H1
theorem dO {K:Ae} (hg:Gl X "enumerate") (hm:X.mg "enumerate" = none) (ha:QA X [a] t) (hn:cA a=true:=by rfl) (hK:X.K=K:=by rfl):QI X (.Tuple ts k tpos) (.Call (.Name "enumerate" p) [a] [] pos) (qW K t):=by
 subst hK
 refine ⟨λ pins s σ H R I h=>?_⟩
 refine Call_ (fV I hg hm (by decide +kernel:bootBuiltins "enumerate" = some (.type "enumerate")) (BL (thn (ha.out pos pins s σ H _ I h) λ us s1 ⟨vs,H1,I1,r1,q1⟩=>?_) (aB hn) rfl))
 obtain ⟨l,e,⟨xs,hq⟩,q⟩:=q1
 subst e
 cases r1 with
 | cons r rr=>
  cases rr
  cases r
  obtain ⟨its,rv,pl,hz⟩:=I1.list hq
  refine call_enumerate_list pl.isList λ g h1 h2 h3 h4=>wpAny_pyIter_enum h1 ?_
  have I2:Inv X pins σ H1 { s1 with heap:=g }:=I1.kept (t':=s1.toks) h4
  refine ⟨s1.heap.objs.size+1,[s1.heap.objs.size+1,s1.heap.objs.size],_,_,H1,rfl,I2,lO l _ _ (FF _),⟨⟨_,h1⟩,h2⟩,λ c hc=>?_,q⟩
  have hle:s1.heap.objs.size<=c:=by
   simp only [Al,Bd,or_false] at hc
   rcases hc with rfl | rfl
   ·exact BO _
   ·exact Ai _
  exact I1.fpOk hle (I1.hok.fresh hle)
theorem gn {K:Ae} (hg:Gl X "enumerate") (hm:X.mg "enumerate" = none) (ha:QA X [a] t) (hn:cA a=true:=by rfl) (hK:X.K=K:=by rfl):QI X (.Tuple ts k tpos) (.Call (.Name "enumerate" p) [a] [] pos) (qX K t):=by
 subst hK
 refine ⟨λ pins s σ H R I h=>?_⟩
 refine Call_ (fV I hg hm (by decide +kernel:bootBuiltins "enumerate" = some (.type "enumerate")) (BL (thn (ha.out pos pins s σ H _ I h) λ us s1 ⟨vs,H1,I1,r1,q1⟩=>?_) (aB hn) rfl))
 obtain ⟨l,e,⟨xs,hq⟩,q⟩:=q1
 subst e
 cases r1 with
 | cons r rr=>
  cases rr
  cases r
  obtain ⟨its,rv,pl,hz⟩:=I1.tuple hq
  refine na (show s1.heap.IsTuple l its.toArray from pl) λ g h1 h2 h4=>wpAny_pyIter_enum h1 ?_
  have I2:Inv X pins σ H1 { s1 with heap:=g }:=I1.kept (t':=s1.toks) h4
  refine ⟨s1.heap.objs.size+1,[s1.heap.objs.size+1,s1.heap.objs.size],_,_,H1,rfl,I2,lP l _ _ (FF _),⟨⟨_,h1⟩,h2⟩,λ c hc=>?_,q⟩
  have hle:s1.heap.objs.size<=c:=by
   simp only [Al,Bd,or_false] at hc
   rcases hc with rfl | rfl
   ·exact BO _
   ·exact Ai _
  exact I1.fpOk hle (I1.hok.fresh hle)
theorem yX {K:Ae} (hg:Gl X "zip") (hm:X.mg "zip" = none) (ha:QA X [a,b] t) (hn:cA a=true:=by rfl) (hn2:cA b=true:=by rfl) (hK:X.K=K:=by rfl):QI X (.Tuple ts k tpos) (.Call (.Name "zip" p) [a,b] [] pos) (zM K t):=by
 subst hK
 refine ⟨λ pins s σ H R I h=>?_⟩
 have e2:starEach [b] X.env=[(false,eval b X.env)]:=aB hn2
 refine Call_ (fV I hg hm (by decide +kernel:bootBuiltins "zip" = some (.type "zip")) (BL (thn (ha.out pos pins s σ H _ I h) λ us s1 ⟨vs,H1,I1,r1,q1⟩=>?_) (aB hn) (by rw [e2]; rfl)))
 obtain ⟨l,m,e,⟨xs,hq⟩,⟨ys,hq'⟩,q⟩:=q1
 subst e
 cases r1 with
 | cons r rr=>
  cases rr with
  | cons r' rr=>
   cases rr
   cases r; cases r'
   obtain ⟨its,rv,pl,hz⟩:=I1.list hq
   obtain ⟨jts,rw',pl',hz'⟩:=I1.list hq'
   have a1:l<s1.heap.objs.size:=by obtain ⟨o,g,_⟩:=pl.isList; exact Am g
   have a2:m<s1.heap.objs.size:=by obtain ⟨o,g,_⟩:=pl'.isList; exact Am g
   refine call_zip_2 pl.isList pl'.isList λ g h1 h2 h3 h4 h5 h6 h7=>wpAny_pyIter_zip h1 ?_
   have I2:Inv X pins σ H1 { s1 with heap:=g }:=I1.kept (t':=s1.toks) h7
   refine ⟨_,_,_,_,H1,rfl,I2,p6 l m _ _ _ _ _ (zipApart_new a1 a2),⟨h1,h2,⟨_,_,h3⟩,h4,h5⟩,λ c hc=>?_,q⟩
   have hle:s1.heap.objs.size<=c:=by
    simp only [Al,Bd,or_false] at hc
    rcases hc with rfl | rfl | rfl | rfl | rfl
    ·exact Cs _ _
    ·exact Cs _ _
    ·exact Cs _ _
    ·exact Ai _
    ·exact Cs _ _
   exact I1.fpOk hle (I1.hok.fresh hle)
end
section
variable {K:Ae} {σ:St} {H:Hp} {Q:VK} {D:Ends} {g:TG} {te:TE} {tb:TS}
theorem wO {t:TA} {R:It->Hp->Prop} (h:t σ H λ vs H1=>∃ a,vs=[.ref a]/\(∃ xs,SqL K H1 a xs)/\R (yf K a) H1):qW K t σ H R:=h
theorem wP {t:TA} {R:It->Hp->Prop} (h:t σ H λ vs H1=>∃ a,vs=[.ref a]/\(∃ xs,SqT K H1 a xs)/\R (yg K a) H1):qX K t σ H R:=h
theorem dP {J:It} (Pv:Nat->St->Hp->Prop) (h0:Pv 0 σ H) (hgo:∀ i σ H,i<n->Pv i σ H->J.go i H) (hst:∀ σ H,Pv n σ H->J.stop n H)
  (hs:∀ i x σ H H',i<n->Pv i σ H->J.yld i H x H'->g x σ H' λ σ2 H2=>tb { D with nx:=Pv (i+1),ct:=Pv (i+1),bk:=D.nx } σ2 H2) (hd:∀ σ H,Pv n σ H->D.nx σ H) :
  ∃ W:Nat->Nat->St->Hp->Prop,(∃ m,W 0 m σ H)/\∀ i m σ H,W i m σ H->
   (J.stop i H/\D.nx σ H)\/(J.go i H/\∃ N:St->Hp->Prop,(∀ σ' H',N σ' H'->∃ m',m'<m/\W (i+1) m' σ' H')/\∀ x H',J.yld i H x H'->g x σ H' λ σ2 H2=>tb { D with nx:=N,ct:=N,bk:=D.nx } σ2 H2):=by
 refine ⟨λ i m σ H=>m=n - i/\i<=n/\Pv i σ H,⟨n,by simp,AC _,h0⟩,?_⟩
 rintro i m σ H ⟨rfl,hi,p⟩
 by_cases hlt:i<n
 ·exact .inr ⟨hgo i σ H hlt p,Pv (i+1),λ σ' H' p'=>⟨n - (i+1),by lia,rfl,hlt,p'⟩,λ x H' y=>hs i x σ H H' hlt p y⟩
 ·have e:i=n:=by lia
  subst e
  exact .inl ⟨hst σ H p,hd σ H p⟩
theorem wQ {J:It} {σ0:St} {R:List V->Hp->Prop} (Pv:Nat->List V->St->Hp->Prop) (hz:n<sizeLine) (hl:∀ i ys σ H,Pv i ys σ H->ys.length=i) (h0:Pv 0 [] σ0 H) (hgo:∀ i ys σ H,i<n->Pv i ys σ H->J.go i H) (hst:∀ ys σ H,Pv n ys σ H->J.stop n H)
  (hs:∀ i x ys σ H H',i<n->Pv i ys σ H->J.yld i H x H'->g x σ H' λ σ2 H2=>te σ2 H2 λ y H3=>Nx n i (Pv (i+1) (ys++[y]) σ2 H3)) (hd:∀ ys σ H,Pv n ys σ H->R ys H) :
  ∃ W:Nat->Nat->List V->St->Hp->Prop,(∃ m,W 0 m [] σ0 H)/\∀ i m xs σc H,W i m xs σc H->xs.length<sizeLine/\
  ((J.stop i H/\R xs H)\/(J.go i H/\∀ x H',J.yld i H x H'->g x σc H' λ σ2 H2=>te σ2 H2 λ y H3=>∃ m',m'<m/\W (i+1) m' (xs++[y]) σ2 H3)):=by
 refine ⟨λ i m xs σ H=>m=n - i/\i<=n/\Pv i xs σ H,⟨n,by simp,AC _,h0⟩,?_⟩
 rintro i m xs σ H ⟨rfl,hi,p⟩
 refine ⟨by rw [hl i xs σ H p]; exact By hi hz,?_⟩
 by_cases hlt:i<n
 ·exact .inr ⟨hgo i xs σ H hlt p,λ x H' y=>hs i x xs σ H H' hlt p y⟩
 ·have e:i=n:=by lia
  subst e
  exact .inl ⟨hst xs σ H p,hd xs σ H p⟩
end
section
variable {K:Ae} {σ:St} {H:Hp} {Q:VK} {D:Ends}
theorem yY {R:Bool->Hp->Prop} (h:ta σ H λ x H'=>∃ k,vf K x H' k/\R k H'):yV K ta σ H R:=h
theorem zN {r:V->Option Int->Option Int->Hp->VK->Prop} {tl th:TO} (h:te σ H λ x H1=>tl σ H1 λ l H2=>th σ H2 λ u H3=>r x l u H3 Q):tSl r te tl th σ H Q:=h
theorem yh {t:TE} {R:Option Int->Hp->Prop} (h:t σ H λ x H1=>∃ i,x=.int i/\R (some i) H1):sG t σ H R:=h
theorem vL {R:Option Int->Hp->Prop} (h:R none H):jN σ H R:=h
theorem bZ {p:Addr} {x:V} {R:St->Hp->Prop} (e:H p=some (.tup [x,y])) (h:R ((σ.set i (some x)).set j (some y)) H):xn K 2 (pk (il i) (pk (il j) xm)) (.ref p) σ H R:=
 ⟨p,_,rfl,HQ e,rfl,_,_,rfl,_,_,rfl,rfl,h⟩
theorem zO {p:Addr} (h:SqL K H p xs):vf K (.ref p) H (!xs.isEmpty):=.inl ⟨xs,h,rfl⟩
theorem yi {α:Type} {G:Prop} {S B:α->Hp->Prop} (hA:(∀ a H,S a H->B a H)->G) (hB:∀ a H,S a H->B a H):G:=hA hB
theorem bO {α:Type} {f:α->V} {xs:List α} {x:V} (h:(xs.map f)[i]? = some x):∃ z,x=f z/\xs[i]? = some z/\z∈xs/\i<xs.length:=by
 rw [Ak] at h
 cases e:xs[i]? with
 | none=>rw [e] at h; cases h
 | some z=>rw [e] at h; exact ⟨z,(Ba h).symm,rfl,Ax e,(AH.mp e).1⟩
end
section
variable {X:Cx} {e:Expr} {te:TE} {g:TG} {pos tpos:Pos} {ts:List Expr} {k:Nat}
theorem nb (he:QE X e te) (hg:QG X (.Tuple ts k tpos) g) (hs:swapsWithSole [.Tuple ts k tpos] e pos.line X.env=pure false:=by rfl) (hw:swappedStores [.Tuple ts k tpos] e X.env=pure none:=by rfl)
  (h1:(assignEach [.Tuple ts k tpos] X.env).map (·.2)=[assign (.Tuple ts k tpos) X.env]:=by rfl):QS X (.Assign [.Tuple ts k tpos] e pos) (qJ te g):=⟨qK he.out hg.out hs hw h1⟩
end
section
variable {K:Ae} {σ:St} {H:Hp}
end
theorem nc {i:Int} (e:i=j) (h:j<n):ixN n i=some j:=by
 subst e
 unfold ixN
 rw [if_pos (by lia),if_pos (by lia)]
 simp
section
variable {X:Cx} {a b e o:Expr} {es:List Expr} {t:TA} {te to tb:TE} {p p2 pos pos2 apos cpos tpos:Pos}
noncomputable def yZ:R2:=λ x y H Q=>y=.non/\Q (.bl (decide (x=.non))) H
theorem vM:QOp X (compareOp .Is) yZ:=⟨ve⟩
theorem qY (ho:QE X o to) (hi:QE X b tb)
  (ha:∀ v,assign (.Subscript o b tpos) X.env v=(do
   let ov <-holding [v] (eval o X.env)
   let iv <-holding [v,ov] (eval b X.env)
   standAt tpos
   holding [v,ov,iv] (setItem ov iv v)
   release [v,ov,iv] []):=by intro _; rfl):QG X (.Subscript o b tpos) (wE to tb jP):=⟨qI ho.out hi.out fM ha⟩
end
section
variable {K:Ae} {σ:St} {H:Hp} {Q:VK}
theorem yj {x:V} (h:Q (.bl (decide (x=.non))) H):yZ x .non H Q:=⟨rfl,h⟩
end
noncomputable def Tp2 (H:Hp) (p:Addr):Prop:=∃ a b:Int,H p=some (.lst [.int a,.int b])/\0<=a/\0<=b
structure St2 (p:Addr) (H H':Hp):Prop where
 keep:∀ q o,H q=some o->q≠p->H' q=some o
 tape:Tp2 H' p
section
variable {H H1 H2:Hp} {p q l:Addr} {o:HO}
theorem St2.refl (t:Tp2 H p):St2 p H H:=⟨λ _ _ h _=>h,t⟩
theorem St2.trans (a:St2 p H H1) (b:St2 p H1 H2):St2 p H H2:=⟨λ q o h n=>b.keep q o (a.keep q o h n) n,b.tape⟩
theorem Tp2.mk {a b:Int} (h:0<=a) (h2:0<=b):St2 p H (upd H p (.lst [.int a,.int b])):=⟨λ q o e n=>by rw [aj n]; exact e,⟨a,b,aa,h,h2⟩⟩
theorem Tp2.ne (t:Tp2 H p) (h:H q=none):q≠p:=by
 obtain ⟨a,b,e,_⟩:=t
 exact λ z=>ak e h z.symm
theorem Tp2.same (t:Tp2 H p) (s:Same H H1):Tp2 H1 p:=by
 obtain ⟨a,b,e,n⟩:=t
 exact ⟨a,b,s _ _ e,n⟩
theorem Tp2.own (t:Tp2 H p) (n:l≠p):Tp2 (upd H l o) p:=by
 obtain ⟨a,b,e,q⟩:=t
 exact ⟨a,b,by rw [aj (AV n)]; exact e,q⟩
theorem St2.new (a:St2 p H H1) (h:H1 q=none):St2 p H (upd H1 q o):=⟨λ b u e1 e2=>by rw [aj (ak (a.keep b u e1 e2) h)]; exact a.keep b u e1 e2,a.tape.own (a.tape.ne h)⟩
theorem St2.own (a:St2 p H H1) (h:H l=none) (n:l≠p):St2 p H (upd H1 l o):=⟨λ b u e1 e2=>by rw [aj (ak e1 h)]; exact a.keep b u e1 e2,a.tape.own n⟩
theorem St2.free (s:St2 p H H1) (h:H1 q=none):H q=none:=by
 cases e:H q with
 | none=>rfl
 | some o=>
  have:=s.keep q o e (s.tape.ne h)
  rw [h] at this; cases this
end
noncomputable def sY (K:Ae):Sp:=λ vs H Q _=>∃ (a:Addr) (ns:List Int) (k:Int),vs=[.ref a,.int k]/\SqL K H a (ns.map HR)/\0<=k/\∀ p H',H p=none->Same H H'->Tp2 H' p->Q (.ref p) H'
noncomputable def sZ:Sp:=λ vs H Q _=>∃ (p:Addr) (m:Int),vs=[.ref p,.int m]/\Tp2 H p/\0<m/\m<2 ^ 64/\∀ (r:Nat) H',(r:Int)<m->St2 p H H'->Q (.int r) H'
noncomputable def NV (os:List Nat):List V:=os.map λ o:Nat=>HR o
theorem bP (os:List Nat):(NV os).length=os.length:=by simp [NV]
theorem ng (os:List Nat):NV os=(os.map λ o:Nat=>(o:Int)).map HR:=by rw [NV,D9]; rfl
theorem qZ {os:List Nat} {o:Nat} (h:os[i]? = some o):(NV os)[i]? = some (HR o):=by rw [NV,Ak,h]; rfl
theorem gq (os:List Nat) (o:Nat):NV os++[HR o]=NV (os++[o]):=by simp [NV]
noncomputable def z7 (H:Hp) (ps:List Addr) (nss:List (List Nat)):Prop:=ps.length=nss.length/\∀ (i:Nat) p ns,ps[i]? = some p->nss[i]? = some ns->H p=some (.lst (NV ns))
section
variable {H H1:Hp} {ps:List Addr} {nss:List (List Nat)}
end
noncomputable def wR (os:List Nat):Nat->List Bool->Nat->List Nat×List Bool
 | 0,met,_=>([],met)
 | f+1,met,pl=>if met.getD pl true=true then ([],met) else (pl::(wR os f (met.set pl true) (os.getD pl 0)).1,(wR os f (met.set pl true) (os.getD pl 0)).2)
theorem ni (os:List Nat) (i o:Nat):(NV os).set i (HR o)=NV (os.set i o):=by simp [NV,E7]
theorem vN (xs ys:List Nat):NV xs++NV ys=NV (xs++ys):=by simp [NV]
section
variable {X:Cx} {e:Expr} {te:TE} {pos p1 p2 p3 p4 p5:Pos} {j j':Nat}
end
theorem aY {α:Type} {xs:List α} {x:α} (h:xs[i]? = some x):i<xs.length:=(AH.mp h).1
section
variable {X:Cx} {N tgs frs:List Str} {ix:List Nat} {scope:Scope} {cl:List (Str×Addr)}
end
section
variable {X:Cx} {e o b:Expr} {to tb te:TE} {t:TA} {pos apos cpos tpos:Pos}
theorem lQ {K:Ae} (ho:QE X o to) (hbase:attributeBase o ("reverse" : Str) X.env (eval o X.env)=eval o X.env:=by rfl) (hline:(apos.endLine == cpos.line)=true:=by rfl) (hK:X.K=K:=by rfl) :
  QE X (.Call (.Attribute o "reverse" apos) [] [] cpos) (wJ K "list" kv to):=by subst hK; exact ⟨qP Cv PySem.F.slot_list_reverse PySem.F.type_list_reverse lI ho.out hbase hline⟩
theorem nj {K:Ae} (ho:QE X o to) (hbase:attributeBase o ("pop" : Str) X.env (eval o X.env)=eval o X.env:=by rfl) (hline:(apos.endLine == cpos.line)=true:=by rfl) (hK:X.K=K:=by rfl) :
  QE X (.Call (.Attribute o "pop" apos) [] [] cpos) (wJ K "list" xK to):=by subst hK; exact ⟨qP Cv PySem.F.slot_list_pop PySem.F.type_list_pop vv ho.out hbase hline⟩
end
section
variable {X:Cx} {N tgs frs:List Str} {ix:List Nat} {scope:Scope} {cl:List (Str×Addr)} {xc:Str}
end
section
variable {X:Cx} {e o b:Expr} {to tb te:TE} {pos tpos:Pos}
noncomputable def vO:R2:=λ x y H Q=>∃ a b xs ys,x=.ref a/\y=.ref b/\H a=some (.tup xs)/\H b=some (.tup ys)/\xs.length+ys.length<=sizeLine/\∀ p H',Same H H'->H' p=some (.tup (xs++ys))->Q (.ref p) H'
theorem tf:QOp X (binaryOp .Add) vO:=by
 refine ⟨λ pins s σ H x y v u Q I rx ry h=>?_⟩
 obtain ⟨a,b,xs,ys,rfl,rfl,ha,hb,hz,q⟩:=h
 by_cases hx:xs=[]
 ·subst hx
  cases rx; cases ry
  obtain ⟨its,r1,p1,_⟩:=I.tuple (HQ ha)
  obtain ⟨its2,r2,p2,_⟩:=I.tuple (HQ hb)
  obtain ⟨⟨c1,d1,t1,l1⟩,o1,o2,n1,o3⟩:=id p1
  obtain ⟨⟨c2,d2,t2,l2⟩,o4,o5,n2,o6⟩:=id p2
  simp only at o2 o3 o5 o6
  subst o2 o3 o5 o6
  have e1:its=[]:=r1.nil_iff.mpr rfl
  refine concat_meets ⟨_,o1,rfl⟩ ⟨_,o4,rfl⟩ noFill_tuple_add seq_tuple_add Dc C5 (CY _ _)
   (tuple_addW0 a b its.toArray its2.toArray n1 n2 d1 d2 l1 l2 (by simp [e1])) ⟨o1,o4,?_⟩
  exact ⟨.ref b,H,I,rfl,q b H (Same.refl H) hb⟩
 ·exact sJ pins s σ H _ _ v u Q I rx ry ⟨a,b,xs,ys,rfl,rfl,HQ ha,HQ hb,hx,hz,λ e=>q a H (Same.refl H) (by rw [e,B8]; exact ha),λ _ p hp=>q p _ ((Same.refl H).new hp) aa⟩
noncomputable def vP (K:Ae):R2:=λ x y H Q=>∃ a b xs,x=.ref a/\y=.ref b/\SqL K H a xs/\SqL K H b []/\Q (.bl (!decide (xs=[]))) H
theorem gr {K:Ae} (hu:X.A.units<cLine) (hK:X.K=K:=by rfl):QOp X (compareOp .NotEq) (vP K):=by
 subst hK
 refine ⟨λ pins s σ H x y v u Q I rx ry h=>?_⟩
 obtain ⟨a,b,xs,rfl,rfl,ha,hb,q⟩:=h
 cases rx; cases ry
 obtain ⟨its,r1,p1,z1⟩:=I.list ha
 obtain ⟨its2,r2,p2,z2⟩:=I.list hb
 have l1:its.toArray.size=xs.length:=by have:=r1.length; simp; lia
 have l2:its2.toArray.size=0:=by have:=r2.length; simp at this; simp [this]
 by_cases hx:xs=[]
 ·subst hx
  refine Hu (e:=λ _=>true) p1.isList p2.isList (by rw [l1,l2]; rfl) hu (λ j h1 h2=>absurd h2 (by lia)) X.prog X.w X.xe _ ?_
  rw [l1]
  exact ⟨.bl false,H,I,rfl,q⟩
 ·refine Gs p1.isList p2.isList (by rw [l1,l2]; have:=Dx.mpr hx; simp; exact hx) hu X.prog X.w X.xe _ ?_
  rw [decide_eq_false hx] at q
  exact ⟨.bl true,H,I,rfl,q⟩
noncomputable def vQ (K:Ae):V->V->Hp->VK->Prop:=λ o i H Q=>∃ a xs k v,o=.ref a/\i=.int k/\SqL K H a xs/\0<=k/\xs[k.toNat]? = some v/\Q v H
theorem p7:xp X (vQ X.K):=by
 intro pins s σ H o i ov iv Q I ro ri h
 obtain ⟨a,xs,k,v,rfl,rfl,hq,h0,hv,q⟩:=h
 cases ro
 obtain ⟨t,rfl⟩:=ri
 obtain ⟨its,r,pl,hz⟩:=I.list hq
 obtain ⟨w,ew,rw'⟩:=r.get hv
 have hl:=aY hv
 have hn:=fy
 exact wpAny_getItem_list pl.isList h0 (by lia) (by simpa using ew) ⟨v,H,I,rw',q⟩
theorem p8 {K:Ae} (ho:QE X o to) (hi:QE X b tb) (he:QE X e te) (ha:∀ ov iv new,augStore b ov iv new=(do holding [new,ov,iv] (setItem ov iv new); release [new,ov,iv] []; pure .next):=by intros; rfl) (hK:X.K=K:=by rfl) :
  QS X (.AugAssign (.Subscript o b tpos) .Add e pos) (pq to tb te (vQ K) (ipI λ i j=>i+j) jP):=by subst hK; exact ⟨mn ho.out hi.out p7 he.out qL fM ha⟩
end
section
variable {K:Ae} {σ:St} {H:Hp} {Q:VK} {D:Ends}
theorem yk {ti:TE} {tget:V->V->Hp->VK->Prop} {tip:TIp} {tset:rR} (h:to σ H λ o H1=>ti σ H1 λ i H2=>tget o i H2 λ x H3=>te σ H3 λ y H4=>tip x y H4 λ z H5=>tset o i z H5 λ H6=>D.nx σ H6):pq to ti te tget tip tset D σ H:=h
theorem y7 {r:V->List V->Hp->VK->Prop} {T:String} (h:to σ H λ x H1=>tyV K T x H1/\r x [] H1 Q):wJ K T r to σ H Q:=h
end
noncomputable def cnt (os:List Nat) (b:Nat):List Nat:=(As b).map λ f=>os.count f
noncomputable def Aa (rss:List (List Nat)) (c:Nat):List Nat:=rss.map λ r=>r.getD c 0
theorem nk (os:List Nat) (w:Nat) (h:w<=os.length):mf (NV os) none (some (w:Int))=NV (os.take w):=by
 unfold mf
 rw [HT.mK,HT.ku,bP,FU h,CH,GY]
 unfold NV
 rw [EO]
theorem nr (os:List Nat) (w:Nat) (h:w<=os.length):mf (NV os) (some (w:Int)) none=NV (os.drop w):=by
 unfold mf
 rw [HT.mK,HT.ku,bP,FU h,AR (by rw [Bc,bP]; exact Ai _)]
 unfold NV
 rw [EQ]
section
variable {X:Cx} {tg a b c:Expr} {t:TA} {p pos:Pos}
end
section
variable {prog:Program} {w:World} {A:Around} {E:Value->Shared->Prop} {s:Shared}
end
section
variable {X:Cx} {a b:Expr} {t:TA} {p pos tpos:Pos} {ts:List Expr} {k:Nat}
end
section
variable {X:Cx} {N tgs frs:List Str} {ix:List Nat} {scope:Scope} {cl:List (Str×Addr)}
end
section
variable {X:Cx} {N tgs frs:List Str} {ix:List Nat} {scope:Scope} {cl:List (Str×Addr)} {xc:Str}
end
section
variable {X:Cx} {e o:Expr} {to te:TE} {t:TA} {pos apos cpos:Pos}
end
section
variable {K:Ae} {σ:St} {H:Hp} {Q:VK} {g:TG} {tc:TT} {te:TE}
end
section
variable {X:Cx}
end
noncomputable def zP (os:List Nat):List Nat:=os.filter λ m=>decide (0<m)
noncomputable def y8 (os:List Nat):Bool:=decide (1<(zP os).length)
noncomputable def lR (os:List Nat) (f:Nat):Nat:=os.countP λ x=>decide (x<f)
end L2
open L2.Same renaming refl→HV
namespace HT
open PySem PyProof.Rows
noncomputable def dJ:List Int->List Int->Bool
 | [],[]=>true
 | [],_::_=>true
 | _::_,[]=>false
 | x::xs,y::ys=>if x=y then dJ xs ys else decide (x<=y)
theorem ie (x y:Int) (xs ys:List Int):dJ (x::xs) (y::ys)=if x=y then dJ xs ys else decide (x<=y):=rfl
theorem iC:dJ [] []=true:=rfl
theorem gS (y:Int) (ys:List Int):dJ [] (y::ys)=true:=rfl
theorem gT (x:Int) (xs:List Int):dJ (x::xs) []=false:=rfl
theorem p9 (A:Around) (s:Shared) (a:Int) (t:Tok) (c:Int) (u:Tok) (prog:Program) (w:World) (E:Value->Shared->Prop) (Q:Value->Shared->Prop) (h:Q (.bool (decide (a<=c))) s) :
  wpAny (model prog w) A (richCompare .LtE (.int a t) (.int c u)) Q E s:=
 (Hk h:wpAny (model prog w) A (compareOp .LtE (.int a t) (.int c u)) Q E s)
section
open PySem.SeqAt
open PySem.AutoSeq1 (wpAny_loadPart')
open PySem.MeetsSeq PySem.MeetsSeq2 PySem.MeetsSeq3
theorem iD (l b:Addr) (items items2:Array Value) (n n2:Nat) (dd dd2:Option Addr) (sl sl2:Array (Option Value)) (ns ms:List Int) (hi:IntsAre items.toList ns) (hj:IntsAre items2.toList ms) :
  Meets (Builtin.«tuple.__le__» ⟨[.ref l,.ref b],[]⟩)
   (λ _ R s=>s.heap.get? l=some { cls:=.type "tuple",dict:=dd,data:=.seq items n,slots:=sl }/\s.heap.get? b=some { cls:=.type "tuple",dict:=dd2,data:=.seq items2 n2,slots:=sl2 }/\
    R (.ok (.ret (.bool (dJ ns ms)))) s):=
 .of_wp λ prog w A R s h=>by
  obtain ⟨hp,g,d,tk,os⟩:=s; obtain ⟨hl,hb,h⟩:=h
  have f2:=Cq
  have z1:items.size=ns.length:=by rw [<-hi.length]; simp
  have z2:items2.size=ms.length:=by rw [<-hj.length]; simp
  wp_walk using wpAny_loadPart' hl,wpAny_loadPart' hb,wpAny_forIn_list _ (λ rest b s'=>b.1=none/\s'=⟨hp,g,d,tk,os⟩/\∃ (vs ws:List Value) (ns' ms':List Int),rest=vs.zip ws/\
   IntsAre vs ns'/\IntsAre ws ms'/\ns'.length+items2.size=ms'.length+items.size/\R (.ok (.ret (.bool (dJ ns' ms')))) ⟨hp,g,d,tk,os⟩) _
  case turn=>
   rintro ⟨y,x⟩ rest b s' ⟨hb',rfl,vs,ws,ns',ms',hz,hvi,hwi,hlen,hR⟩
   cases hvi with
   | nil=>rw [C7] at hz; cases hz
   | cons a t hvi'=>
    cases hwi with
    | nil=>rw [CW] at hz; cases hz
    | cons c u hwi'=>
     rw [BG] at hz
     injection hz with hyx hrest
     injection hyx with hy hx
     subst hy hx
     rw [ie] at hR
     simp only [Az] at hlen
     obtain ⟨e,he,hiff⟩:=ir A.in1 ⟨hp,g,d,tk,os⟩ a t c u
     refine wpAny_bind (he prog w _ _ ?_)
     cases e with
     | true=>
      rw [if_pos (hiff.mp rfl)] at hR
      wp_walk
      exact ⟨rfl,rfl,_,_,_,_,hrest,hvi',hwi',by lia,hR⟩
     | false=>
      rw [if_neg (λ q=>absurd (hiff.mpr q) Ao)] at hR
      have hri:=p9 A.in1 ⟨hp,g,d,tk,os⟩ a t c u prog w
      wp_walk using hri
      exact ⟨_,rfl,by simpa using hR⟩
  case fin=>
   rintro ⟨b1,b2⟩ s' ⟨hb',rfl,vs,ws,ns',ms',hz,hvi,hwi,hlen,hR⟩
   simp only at hb'
   subst hb'
   have hv:dJ ns' ms'=decide (items.size<=items2.size):=by
    cases hvi with
    | nil=>
     cases hwi with
     | nil=>
      simp only [A9] at hlen
      rw [iC]
      exact (decide_eq_true (by lia)).symm
     | cons c u hw=>
      simp only [A9,Az] at hlen
      rw [gS]
      exact (decide_eq_true (by lia)).symm
    | cons a t hv=>
     cases hwi with
     | nil=>
      simp only [A9,Az] at hlen
      rw [gT]
      exact (decide_eq_false (by lia)).symm
     | cons c u hw=>
      rw [BG] at hz
      cases hz
   rw [hv] at hR
   wp_walk
   exact ⟨_,rfl,by simpa [BW] using hR⟩
  case h=>
   exact ⟨rfl,rfl,items.toList,items2.toList,ns,ms,rfl,hi,hj,by lia,h⟩
end
section
variable {prog:Program} {w:World} {A:Around} {E:Value->Shared->Prop} {s:Shared}
theorem lS {items2:Array Value} {ns ms:List Int} (hl:IsTup s.heap l items) (hb:IsTup s.heap b items2) (hi:IntsAre items.toList ns) (hj:IntsAre items2.toList ms)
  (hu:A.units<cLine) (h:Q (.bool (dJ ns ms)) s):wpAny (model prog w) A (compareOp .LtE (.ref l) (.ref b)) Q E s:=by
 obtain ⟨⟨cls,dd,data,sl⟩,ho,hc,n,hd⟩:=id hl
 obtain ⟨⟨cls2,dd2,data2,sl2⟩,ho2,hc2,n2,hd2⟩:=id hb
 simp only at hc hd hc2 hd2
 subst hc hd hc2 hd2
 exact richCompare_meets_room (op:=.LtE) ⟨_,ho,rfl⟩ ⟨_,ho2,rfl⟩ PySem.F.slot_tuple_le PySem.F.entry_tuple_le (PySem.F.args_tuple_le_2 _ _) (iD l b items items2 n n2 dd dd2 sl sl2 ns ms hi hj)
  ⟨ho,ho2,show C3 (dJ ns ms)≠Dq/\Q (.bool (dJ ns ms)) s from ⟨(λ x=>nomatch x),h⟩⟩ hu
end
theorem jq (ns ms:List Int):dJ ns ms=!aQ ms ns:=by
 induction ns generalizing ms with
 | nil=>cases ms<;>rfl
 | cons x xs ih=>
  cases ms with
  | nil=>rfl
  | cons y ys=>
   rw [ie,bb]
   by_cases h:x=y
   ·subst h; rw [if_pos rfl,if_pos rfl,ih]
   ·rw [if_neg h,if_neg (AV h)]
    by_cases g:x<=y
    ·rw [decide_eq_true g,decide_eq_false (by lia)]; rfl
    ·rw [decide_eq_false g,decide_eq_true (by lia)]; rfl
end HT
namespace L2
open PySem PySem.Spec PyProof.Rows
section
variable {X:Cx} {e e2 o:Expr} {to te:TE} {t:TA} {pos apos cpos:Pos}
noncomputable def yl (K:Ae):R2:=λ x y H Q=>∃ a b ns ms,x=.ref a/\y=.ref b/\SqT K H a (ns.map HR)/\SqT K H b (ms.map HR)/\Q (.bl (HT.dJ ns ms)) H
theorem vR (hu:X.A.units<cLine):OpR X (compareOp .LtE) (yl X.K):=by
 intro pins s σ H x y v u Q I rx ry h
 obtain ⟨a,b,ns,ms,rfl,rfl,ha,hb,q⟩:=h
 cases rx
 cases ry
 obtain ⟨its,r1,p1,_⟩:=I.tuple ha
 obtain ⟨its2,r2,p2,_⟩:=I.tuple hb
 have i1:IntsAre its.toArray.toList ns:=bn r1
 have i2:IntsAre its2.toArray.toList ms:=bn r2
 exact HT.lS p1 p2 i1 i2 hu ⟨.bl (HT.dJ ns ms),H,I,rfl,q⟩
theorem vS {K:Ae} (hu:X.A.units<cLine) (hK:X.K=K:=by rfl):QOp X (compareOp .LtE) (yl K):=by subst hK; exact ⟨vR hu⟩
theorem ym {K:Ae} (hu:X.A.units<cLine) (hK:X.K=K:=by rfl):QOp X (compareOp .Lt) (xH K):=by subst hK; exact ⟨vp hu⟩
noncomputable def jU:V->List V->Hp->VK->Prop:=λ x vs H Q=>∃ (l:Addr) (xs:List V) (k:Nat) (i:Int) (y:V),x=.ref l/\vs=[.int i,y]/\i=(k:Nat)/\H l=some (.lst xs)/\k<=xs.length/\xs.length<sizeLine/\Q .non (upd H l (.lst (xs.take k++y::xs.drop k)))
theorem nw:MtM X "list.insert" jU:=by
 intro pins s σ H x vs v us Q I rx rv h
 obtain ⟨l,xs,k,i,y,rfl,rfl,hik,hH,hk,hz,q⟩:=h
 cases rx
 obtain ⟨u1,u,rfl,r1,r2⟩:=sg rv
 obtain ⟨t,rfl⟩:=r1
 obtain ⟨z,its,n,r,hl,e⟩:=I.lstM hH
 have hn:=fy
 have hk63:i<2 ^ 63:=by
  rw [hik]
  have:k<2 ^ 63:=By (Bg hk (BY hz)) hn
  exact Int.ofNat_lt.mpr this
 have hk0:-(2 ^ 63)<=i:=by rw [hik]; exact Int.le_trans (by decide) (Int.natCast_nonneg k)
 have hfi:¬ (!Builtin.List.listFitsIndex i)=true:=by rw [fitsIndex_both hk0 hk63]; exact Ao
 have hsz:its.toArray.size<=sizeLine:=by rw [Ar]; lia
 have M:=Fd l its.toArray n i t u hfi hsz
 refine call_meets F.slot_list_insert ⟨_,e,rfl⟩ F.entry_list_insert (F.args_list_insert_3 (.ref l) (.int i t) u) M ⟨e,?_⟩
 refine ⟨.non,_,I.lstUpd (t:=s.toks) (its':=its.take k++u::its.drop k) (n':=n+1) hH e ?_ ((r.take k).append (.cons r2 (r.drop k))) ?_,rfl,q⟩
 ·have hki:k<=its.length:=by lia
  have hi0:¬ i<0:=by lia
  have hi1:i.toNat=k:=by lia
  simp [BB,hi0,hi1,hki]
  first | exact ⟨AR (by simp),by lia⟩ | exact AR (by simp) | (refine ⟨AR (by simp),?_⟩; lia) | trace_state
 ·rw [Ay,A8,Az,Bc]; lia
theorem tw {r:V->List V->Hp->VK->Prop} {T id:String} (pa:PlainAttrs T) (slot:Slot T name id) (hty:typeOf (.builtin id)=pure (.type "method_descriptor")) (hm:MtR X id r) (ho:PE X o to) (ha:PA X [e,e2] t)
  (hbase:attributeBase o name X.env (eval o X.env)=eval o X.env) (hline:(apos.endLine == cpos.line)=true) (hn:cA e=true) (hn2:cA e2=true) :
  PE X (.Call (.Attribute o name apos) [e,e2] [] cpos) (tBM X.K T r to t):=by
 refine vt pa slot hty hm ho ha hbase ?_ hline (aB hn) ?_
 ·rw [aB hn,aB hn2]; rfl
 ·rw [aB hn2]; rfl
theorem nz {K:Ae} (ho:QE X o to) (ha:QA X [e,e2] t) (hbase:attributeBase o ("insert" : Str) X.env (eval o X.env)=eval o X.env:=by rfl) (hline:(apos.endLine == cpos.line)=true:=by rfl) (hn:cA e=true:=by rfl) (hn2:cA e2=true:=by rfl) (hK:X.K=K:=by rfl) :
  QE X (.Call (.Attribute o "insert" apos) [e,e2] [] cpos) (tBM K "list" jU to t):=by subst hK; exact ⟨tw Cv PySem.F.slot_list_insert PySem.F.type_list_insert nw ho.out ha.out hbase hline hn hn2⟩
end
noncomputable def DatAt:Nat->Hp->V->PyData->Prop
 | 0,_,x,d=>∃ i:Int,x=.int i/\d=.int i/\i.natAbs<10 ^ 12
 | n+1,H,x,d=>(∃ i:Int,x=.int i/\d=.int i/\i.natAbs<10 ^ 12)\/(∃ a xs ds,x=.ref a/\d=.list ds/\H a=some (.lst xs)/\xs.length=ds.length/\∀ (i:Nat) u e,xs[i]? = some u->ds[i]? = some e->DatAt n H u e)\/
  (∃ a xs ds,x=.ref a/\d=.tuple ds/\H a=some (.tup xs)/\xs.length=ds.length/\∀ (i:Nat) u e,xs[i]? = some u->ds[i]? = some e->DatAt n H u e)
theorem gu {P:PyData->Bool} {PA:List PyData->Bool} (h0:PA []=true) (h1:∀ x xs,PA (x::xs)=(P x && PA xs)):∀ {ds:List PyData},(∀ d∈ds,P d=true)->PA ds=true
 | [],_=>h0
 | d::ds,h=>by rw [h1,h d (A1 ..),gu h0 h1 λ x hx=>h x (AG _ hx)]; rfl
theorem cI {n:Nat}:∀ {ds:List PyData},(∀ d∈ds,d.depth<=n)->FV ds<=n
 | [],_=>AC _
 | d::ds,h=>by
  show max d.depth (FV ds)<=n
  have h1:=h d (A1 ..)
  have h2:=cI (ds:=ds) λ x hx=>h x (AG _ hx)
  lia
theorem dm:∀ {ds:List PyData},(∀ d∈ds,d.hasDict=false)->Fj ds=false
 | [],_=>rfl
 | d::ds,h=>by
  show (d.hasDict || Fj ds)=false
  rw [h d (A1 ..),dm λ x hx=>h x (AG _ hx)]; rfl
section
variable {X:Cx} {pins:List (Addr×Obj)} {σ:St} {H:Hp} {s:Shared}
theorem cJ {R:V->PyData->Prop} {h:Heap} (hR:∀ x v d,R x d->RelV x v->∃ as,Reads h v d as):∀ {xs:List V} {its:List Value} {ds:List PyData},Vals xs its->xs.length=ds.length->(∀ (i:Nat) u e,xs[i]? = some u->ds[i]? = some e->R u e)->∃ as,ReadsAll h its ds as
 | _,_,[],.nil,_,_=>⟨[],.nil⟩
 | _,_,d::ds,.cons r rr,hl,hi=>by
  obtain ⟨as,h1⟩:=hR _ _ d (hi 0 _ d rfl rfl) r
  obtain ⟨bs,h2⟩:=cJ hR rr (by simpa using hl) λ i u e e1 e2=>hi (i+1) u e e1 e2
  exact ⟨as++bs,.cons h1 h2⟩
 | _,_,_::_,.nil,hl,_=>by simp at hl
 | _,_,[],.cons _ _,hl,_=>by simp at hl
end
section
variable {K:Ae} {σ:St} {H:Hp} {Q:VK}
theorem q9 {ns ms:List Int} (h1:SqT K H a (ns.map HR)) (h2:SqT K H b (ms.map HR)) (h:Q (.bl (HT.dJ ns ms)) H):yl K (.ref a) (.ref b) H Q:=⟨a,b,ns,ms,rfl,rfl,h1,h2,h⟩
theorem vT {ns ms:List Int} (h1:SqT K H a (ns.map HR)) (h2:SqT K H b (ms.map HR)) (h:Q (.bl (HT.aQ ns ms)) H):xH K (.ref a) (.ref b) H Q:=⟨a,b,ns,ms,rfl,rfl,h1,h2,h⟩
theorem nA (h1:H l=some (.lst xs)) (h2:k<=xs.length) (h3:xs.length<sizeLine) (h:Q .non (upd H l (.lst (xs.take k++y::xs.drop k)))):jU (.ref l) [.int (k:Nat),y] H Q:=⟨l,xs,k,_,y,rfl,rfl,rfl,h1,h2,h3,h⟩
end
noncomputable def bf (a:List Nat):List Int:=a.map λ x:Nat=>(x:Int)
noncomputable def lxt (a b:List Nat):Bool:=HT.aQ (bf a) (bf b)
theorem fO (x y:Nat) (a b:List Nat):lxt (x::a) (y::b)=if x=y then lxt a b else decide (x<y):=by
 unfold lxt bf
 rw [Bo,Bo,HT.bb]
 by_cases h:x=y
 ·rw [if_pos h,if_pos (by rw [h])]
 ·rw [if_neg h,if_neg (by lia)]
  exact decide_eq_decide.mpr (by lia)
theorem lT (a:List Nat):lxt a a=false:=by
 induction a with
 | nil=>rfl
 | cons x a ih=>rw [fO,if_pos rfl,ih]
theorem nB {a b c:List Nat} (h1:lxt a b=true) (h2:lxt b c=true):lxt a c=true:=by
 induction a generalizing b c with
 | nil=>
  cases b with
  | nil=>cases h1
  | cons y b=>cases c with
   | nil=>cases h2
   | cons z c=>rfl
 | cons x a ih=>
  cases b with
  | nil=>cases h1
  | cons y b=>
   cases c with
   | nil=>cases h2
   | cons z c=>
    rw [fO] at h1 h2 ⊢
    by_cases e1:x=y
    ·subst e1
     rw [if_pos rfl] at h1
     by_cases e2:x=z
     ·rw [if_pos e2] at h2 ⊢; exact ih h1 h2
     ·rw [if_neg e2] at h2 ⊢; exact h2
    ·rw [if_neg e1] at h1
     have h1:=of_decide_eq_true h1
     by_cases e2:y=z
     ·subst e2; rw [if_neg e1]; exact decide_eq_true h1
     ·rw [if_neg e2] at h2
      have h2:=of_decide_eq_true h2
      rw [if_neg (by lia)]; exact decide_eq_true (by lia)
theorem tD (a b:List Nat):lxt a b=true\/a=b\/lxt b a=true:=by
 induction a generalizing b with
 | nil=>cases b with
  | nil=>exact .inr (.inl rfl)
  | cons y b=>exact .inl rfl
 | cons x a ih=>
  cases b with
  | nil=>exact .inr (.inr rfl)
  | cons y b=>
   rw [fO,fO]
   by_cases e:x=y
   ·subst e
    rw [if_pos rfl,if_pos rfl]
    rcases ih b with h | h | h
    ·exact .inl h
    ·exact .inr (.inl (by rw [h]))
    ·exact .inr (.inr h)
   ·rw [if_neg e,if_neg (AV e)]
    rcases Nat.lt_or_gt_of_ne e with h | h
    ·exact .inl (decide_eq_true h)
    ·exact .inr (.inr (decide_eq_true h))
section
variable {X:Cx} {o a b e:Expr} {to ta tb te:TE} {pos p2 tpos:Pos}
end
section
variable {K:Ae} {σ:St} {H:Hp} {Q:VK} {D:Ends}
theorem nC (h1:H l=some (.lst (xs++[y]))) (h:Q y (upd H l (.lst xs))):xK (.ref l) [] H Q:=⟨l,_,y,rfl,rfl,h1,by simp,by rw [List.dropLast_concat]; exact h⟩
end
noncomputable abbrev y9:=Nat×Nat×Nat
section
variable {X:Cx} {e e2 o:Expr} {to te:TE} {t:TA} {pos apos cpos:Pos}
end
section
variable {K:Ae} {σ:St} {H:Hp} {Q:VK}
end
section
variable {X:Cx} {tg a b c:Expr} {t:TA} {p pos:Pos}
end
section
variable {X:Cx} {e o b:Expr} {to tb te:TE} {pos tpos:Pos}
noncomputable def vU (K:Ae):V->V->Hp->VK->Prop:=λ o i H Q=>∃ a xs v,o=.ref a/\i=.int (-1)/\SqL K H a xs/\xs.getLast? = some v/\Q v H
theorem nD:xp X (vU X.K):=by
 intro pins s σ H o i ov iv Q I ro ri h
 obtain ⟨a,xs,v,rfl,rfl,hq,hv,q⟩:=h
 cases ro
 obtain ⟨t,rfl⟩:=ri
 obtain ⟨its,r,pl,hz⟩:=I.list hq
 have hl:=r.length
 have hn:=fy
 have hne:xs≠[]:=λ z=>by rw [z] at hv; cases hv
 have hpos:0<xs.length:=Dx.mpr hne
 rw [List.getLast?_eq_getElem?] at hv
 obtain ⟨w,ew,rw'⟩:=r.get hv
 have hj:((-1:Int)+(its.toArray.size:Int)).toNat=xs.length - 1:=by rw [Ar]; lia
 exact wpAny_getItem_list_neg pl.isList (by decide) (by rw [Ar]<;>lia) (by decide) (by rw [hj]; simpa using ew) ⟨v,H,I,rw',q⟩
theorem kF {K:Ae} (ho:QE X o to) (hi:QE X b tb) (he:QE X e te) (ha:∀ ov iv new,augStore b ov iv new=(do holding [new,ov,iv] (setItem ov iv new); release [new,ov,iv] []; pure .next):=by intros; rfl) (hK:X.K=K:=by rfl) :
  QS X (.AugAssign (.Subscript o b tpos) .Add e pos) (pq to tb te (vU K) (ipI λ i j=>i+j) jP):=by subst hK; exact ⟨mn ho.out hi.out nD he.out qL fM ha⟩
end
end L2
namespace HT
open PySem PyProof.Rows L2
section
variable {prog:Program} {w:World} {A:Around} {E:Value->Shared->Prop} {s:Shared}
theorem fk {sl:Addr} {vl vu:Value} {lo hi:Option Int} (ht:IsTup s.heap t items) (hs:s.heap.IsSliceOf sl vl vu .none) (pl:IsPart vl lo) (pu:IsPart vu hi)
  (hw:sIx items.size 0 lo=0/\sIx items.size items.size hi=items.size) (h:Q (.ref t) s):wpAny (model prog w) A (getItem (.ref t) (.ref sl)) Q E s:=by
 obtain ⟨os,hos,hcs,hds⟩:=id hs
 have hTs:s.TypeIs (.ref sl) "slice":=⟨os,hos,hcs⟩
 unfold getItem
 try with_reducible refine wpAny_holding ?_
 first | refine wpAny_bind (wpAny_pure ?_) | skip
 refine wpAny_bind (wpAny_sequenceKey ht.typeIs (by decide) ?_)
 refine wpAny_bind (wpAny_callSpecial?_slot (name:=Dr "__getitem__") ht.typeIs Bl
  (wpAny_call_entry Bl ht.typeIs entry_tuple_getitem ?_ (args_tuple_getitem _ _)))
 show wpAny _ _ (DN (.ref t) >>= _) _ _ s
 refine wpAny_bind (tupleItemsOf_ ht ?_)
 refine wpAny_bind (wpAny_typeOf hTs ?_)
 rw [if_pos (by decide)]
 refine wpAny_bind (dF hs pl pu ?_)
 have hyes:(((sIx items.size 0 lo:Nat):Int) == 0 && (1:Int) == 1 && (sIx items.size items.size hi - sIx items.size 0 lo) == items.size)=true:=by
  rw [hw.1,hw.2]; simp
 show wpAny _ _ (if (((sIx items.size 0 lo:Nat):Int) == 0 && (1:Int) == 1 && (sIx items.size items.size hi - sIx items.size 0 lo) == items.size)=true then _ else _) _ _ s
 rw [if_pos hyes]
 refine wpAny_bind (wpAny_bind (wpAny_typeOf ht.typeIs (wpAny_pure ?_)))
 rw [if_pos (by decide)]
 refine wpAny_bind (wpAny_rule ?_)
 exact wpAny_pure ⟨_,rfl,wpAny_pure h⟩
end
end HT
namespace L2
open PySem PySem.Spec PyProof.Rows
section
variable {X:Cx} {tg a b:Expr} {t:TA} {p pos:Pos}
noncomputable def tE:V->Option Int->Option Int->Hp->VK->Prop:=λ x lo hi H Q=>∃ a xs,x=.ref a/\H a=some (.tup xs)/\∀ p H',Same H H'->H' p=some (.tup (mf xs lo hi))->Q (.ref p) H'
theorem tF:SlR X tE:=by
 intro pins s σ H x v vl vu lo hi sl Q I rx hs pl pu h
 obtain ⟨a,xs,rfl,hx,q⟩:=h
 by_cases hw:HT.sIx xs.length 0 lo=0/\HT.sIx xs.length xs.length hi=xs.length
 ·cases rx
  obtain ⟨its,r,ht,hz⟩:=I.tuple (HQ hx)
  have hlen:its.toArray.size=xs.length:=by rw [Ar]; exact r.length.symm
  refine ⟨"tuple",_,Bl.lookup,ht.typeIs,?_⟩
  refine HT.fk ht hs pl pu (by rw [hlen]; exact hw) ⟨.ref a,H,I,rfl,q a H (HV H) ?_⟩
  rw [hx]
  unfold mf
  rw [hw.1,hw.2,CH,GY,AR (Ai _)]
 ·exact vo pins s σ H _ v vl vu lo hi sl Q I rx hs pl pu ⟨a,xs,rfl,HQ hx,hw,λ p hp=>q p _ ((HV H).new hp) aa⟩
theorem ra:QSl X tE:=⟨tF⟩
end
section
variable {K:Ae} {σ:St} {H:Hp} {Q:VK}
end
noncomputable def brk (rss:List (List Nat)) (k:Nat):Bool:=lxt (rss.getD k []) (rss.getD (k - 1) [])
noncomputable def qa (xs:List Nat):List Nat:=xs.set (xs.length - 1) (xs.getLastD 0+1)
noncomputable def aO (rss:List (List Nat)):Nat->List Nat
 | 0=>[]
 | m+1=>if 0<m/\brk rss m=false then qa (aO rss m) else aO rss m++[1]
theorem gv (xs:List Nat) (a:Nat):qa (xs++[a])=xs++[a+1]:=by
 unfold qa
 rw [Ay,BF,DH,List.getLastD_concat]
 simp
theorem gw (rss:List (List Nat)) (m:Nat):aO rss (m+1)≠[]:=by
 induction m with
 | zero=>rw [aO,if_neg (by lia)]; simp
 | succ m ih=>
  rw [aO]
  split
  ·unfold qa
   intro z
   have:=congrArg DC z
   rw [Bj] at this
   exact ih (Bm.mp this)
  ·simp
theorem nE {xs:List Nat} (h:xs≠[]):∃ ys a,xs=ys++[a]:=by
 rcases Ey xs with e | ⟨ys,a,e⟩
 ·exact absurd e h
 ·exact ⟨ys,a,by rw [e,Ez]⟩
theorem jr (rss:List (List Nat)) (m:Nat):(aO rss m).length<=m:=by
 induction m with
 | zero=>exact Ai _
 | succ m ih=>
  rw [aO]
  split
  ·unfold qa; rw [Bj]; lia
  ·rw [Ay,BF]; lia
end L2
namespace L2
open PySem PySem.Spec PyProof.Rows PySem.W
noncomputable def Sat (N:Nat) (lt:Nat->Nat->Bool) {α:Type}:KasT α->(α->Prop)->Prop
 | .ret a,R=>R a
 | .ask i j k,R=>i<N/\j<N/\Sat N lt (k (lt i j)) R
theorem Sat.mono {N:Nat} {lt:Nat->Nat->Bool} {α:Type} {R R':α->Prop} (hR:∀ a,R a->R' a):∀ (t:KasT α),Sat N lt t R->Sat N lt t R'
 | .ret _,h=>hR _ h
 | .ask i j k,h=>⟨h.1,h.2.1,Sat.mono hR (k (lt i j)) h.2.2⟩
theorem Sat.bind {N:Nat} {lt:Nat->Nat->Bool} {α β:Type} {R:α->Prop} {R':β->Prop} {f:α->KasT β} (hf:∀ a,R a->Sat N lt (f a) R'):∀ (t:KasT α),Sat N lt t R->Sat N lt (t.bind f) R'
 | .ret a,h=>hf a h
 | .ask i j k,h=>⟨h.1,h.2.1,Sat.bind hf (k (lt i j)) h.2.2⟩
structure Lt (lt:Nat->Nat->Bool):Prop where
 asym:∀ i j,lt i j=true->lt j i=false
 tr:∀ i j k,lt i j=false->lt j k=false->lt i k=false
noncomputable def Ah (lt:Nat->Nat->Bool) (i j:Nat):Prop:=lt j i=false/\(lt i j=false->i<j)
theorem Ah.of_lt {lt:Nat->Nat->Bool} (H:Lt lt) (h:lt i j=true):Ah lt i j:=⟨H.asym i j h,λ h'=>by rw [h] at h'; cases h'⟩
theorem Ah.trans {lt:Nat->Nat->Bool} (H:Lt lt) (a:Ah lt i j) (b:Ah lt j k):Ah lt i k:=by
 refine ⟨H.tr k j i b.1 a.1,λ h=>?_⟩
 have h1:lt i j=false:=H.tr i k j h b.1
 have h2:lt j k=false:=H.tr j i k a.1 h
 exact Ea (a.2 h1) (b.2 h2)
theorem jV {lt:Nat->Nat->Bool} (H:Lt lt) (h:lt i j=true) (h':lt k j=false):lt i k=true:=by
 cases e:lt i k with
 | true=>rfl
 | false=>rw [H.tr i k j e h'] at h; cases h
theorem iE {lt:Nat->Nat->Bool} (H:Lt lt) (h:lt i j=true) (h':lt i k=false):lt k j=true:=by
 cases e:lt k j with
 | true=>rfl
 | false=>rw [H.tr i k j h' e] at h; cases h
section
variable {N:Nat} {lt:Nat->Nat->Bool}
structure Pm (N:Nat) (p:Array Nat):Prop where
 sz:p.size=N
 bd:∀ i,i<N->p.getD i 0<N
 inj:∀ i j,i<N->j<N->p.getD i 0=p.getD j 0->i=j
theorem eV {p:Array Nat} (h:p.Perm (Au (As N))):Pm N p:=by
 have hp:p.toList.Perm (As N):=by simpa using DO.mp h
 have hs:p.size=N:=by rw [<-Bs,hp.length_eq,Cd]
 have hn:p.toList.Nodup:=hp.nodup_iff.mpr List.nodup_range
 refine ⟨hs,λ i hi=>?_,λ i j hi hj e=>?_⟩
 ·have hi':i<p.size:=by lia
  have:p[i]∈p.toList:=EK.mpr (Array.getElem_mem hi')
  have h2:=hp.mem_iff.mp this
  rw [show p.getD i 0=p[i] by simp [AF,hi']]
  exact BD.mp h2
 ·have hi':i<p.size:=by lia
  have hj':j<p.size:=by lia
  rw [show p.getD i 0=p[i] by simp [AF,hi'],show p.getD j 0=p[j] by simp [AF,hj']] at e
  have e':p.toList[i]'(by simpa using hi')=p.toList[j]'(by simpa using hj'):=by simpa using e
  have hq:=Bb.mp hn
  rcases DU i j with x | x | x
  ·exact absurd e' (hq i j _ _ x)
  ·exact x
  ·exact absurd e'.symm (hq j i _ _ x)
theorem ce {p:Array Nat} (hj:j<=p.size) (k:Nat):(kas_rev p i j).getD k 0=if i<=k/\k<j then p.getD (i+j - 1 - k) 0 else p.getD k 0:=by
 have h:=getElem?_mirror_all (i:=i) hj k
 rw [B7,B7,B7]
 show ((mirror p i j ((j - i) / 2))[k]?).getD 0=_
 rw [h]
 split<;>rfl
theorem fP {p:Array Nat} {l:Nat} (hk:k<p.size) (hl:l<=k) (i:Nat):(bubble p k (k - l)).getD i 0=if i=l then p.getD k 0 else if l<i/\i<=k then p.getD (i - 1) 0 else p.getD i 0:=by
 have h:=getElem?_bubble hk (k - l) (by lia) i
 have e:k - (k - l)=l:=by lia
 rw [e] at h
 simp only [B7]
 rw [h]
 repeat' split
 all_goals rfl
theorem bg {p:Array Nat} (i j:Nat) (h:p.Perm (Au (As N))):(kas_rev p i j).Perm (Au (As N)):=(mirror_perm _ _ _ _).trans h
theorem iF {p:Array Nat} (i j:Nat) (h:p.Perm (Au (As N))):(bubble p i j).Perm (Au (As N)):=(bubble_perm _ _ _).trans h
noncomputable def Tl (N:Nat) (p:Array Nat) (m:Nat):Prop:=∀ i,m<=i->i<N->p.getD i 0=i
theorem Pm.lo {p:Array Nat} (P:Pm N p) (T:Tl N p m) (hi:i<m) (hm:m<=N):p.getD i 0<m:=by
 rcases Bk (p.getD i 0) m with h | h
 ·exact h
 ·have h2:=T _ h (P.bd i (by lia))
  have:=P.inj _ _ (P.bd i (by lia)) (by lia) h2
  lia
noncomputable def Up (lt:Nat->Nat->Bool) (p:Array Nat) (m:Nat):Prop:=∀ i,0<i->i<m->Ah lt (p.getD (i - 1) 0) (p.getD i 0)
theorem Up.all (H:Lt lt) {p:Array Nat} {m:Nat} (U:Up lt p m):∀ d i,i+d+1<m->Ah lt (p.getD i 0) (p.getD (i+d+1) 0)
 | 0,i,h=>U (i+1) (by lia) h
 | d+1,i,h=>(Up.all H U d i (by lia)).trans H (U (i+d+1+1) (by lia) h)
theorem Up.at (H:Lt lt) {p:Array Nat} (U:Up lt p m) (h:i<j) (hj:j<m):Ah lt (p.getD i 0) (p.getD j 0):=by
 have:=U.all H (j - i - 1) i (by lia)
 rw [show i+(j - i - 1)+1=j by lia] at this
 exact this
theorem jW {p:Array Nat} (hb:∀ i,i<N->p.getD i 0<N):∀ (f n:Nat),1<=n->n+f<=N->
  Sat N lt (kas_asc p f n) (λ m=>n<=m/\m<=n+f/\(∀ i,n<=i->i<m->lt (p.getD i 0) (p.getD (i - 1) 0)=false)/\(m<n+f->lt (p.getD m 0) (p.getD (m - 1) 0)=true))
 | 0,n,_,_=>⟨Ai _,Ai _,λ i a b=>by lia,λ h=>by lia⟩
 | f+1,n,h1,hN=>by
  refine ⟨hb _ (by lia),hb _ (by lia),?_⟩
  cases e:lt (p.getD n 0) (p.getD (n - 1) 0) with
  | true=>
   simp only [if_true]
   exact ⟨Ai _,by lia,λ i a b=>by lia,λ _=>e⟩
  | false=>
   simp only [Aq,if_false]
   refine Sat.mono (λ m hm=>?_) _ (jW hb f (n+1) (by lia) (by lia))
   obtain ⟨a,b,c,d⟩:=hm
   refine ⟨by lia,by lia,λ i hi him=>?_,λ h=>d (by lia)⟩
   rcases BU hi with rfl | h
   ·exact e
   ·exact c i h him
structure Dn (N:Nat) (lt:Nat->Nat->Bool) (p:Array Nat) (n q:Nat):Prop where
 perm:p.Perm (Au (As N))
 tl:Tl N p n
 fall:∀ i,0<i->i+(q+1)<n->Ah lt (p.getD i 0) (p.getD (i - 1) 0)
 like:∀ i,n<=i+q->i<n->Ah lt (p.getD (i - 1) 0) (p.getD i 0)/\lt (p.getD (i - 1) 0) (p.getD i 0)=false
 join:∀ i,0<i->i+(q+1)=n->lt (p.getD i 0) (p.getD (i - 1) 0)=true
 len:q+1<=n
 top:n<=N
theorem Dn.alike (H:Lt lt) {p:Array Nat} {n q:Nat} (D:Dn N lt p n q):∀ d i j,i+d=j->n<=i+q+1->j<n->lt (p.getD i 0) (p.getD j 0)=false/\lt (p.getD j 0) (p.getD i 0)=false
 | 0,i,j,e,h1,h2=>by
  have:i=j:=by lia
  subst this
  cases e:lt (p.getD i 0) (p.getD i 0) with
  | false=>exact ⟨rfl,rfl⟩
  | true=>have:=H.asym _ _ e; rw [e] at this; cases this
 | d+1,i,j,e,h1,h2=>by
  obtain ⟨a,b⟩:=Dn.alike H D d i (j - 1) (by lia) h1 (by lia)
  obtain ⟨⟨c,_⟩,c'⟩:=D.like j (by lia) h2
  exact ⟨H.tr _ _ _ a c',H.tr _ _ _ c b⟩
theorem Dn.turn (H:Lt lt) {p:Array Nat} {q:Nat} (D:Dn N lt p n q):Tl N (kas_rev p (n - (q+1)) n) n/\(∀ i,0<i->i<n->Ah lt ((kas_rev p (n - (q+1)) n).getD i 0) ((kas_rev p (n - (q+1)) n).getD (i - 1) 0))/\
  (∀ x,lt x (p.getD (n - 1) 0)=true->lt x ((kas_rev p (n - (q+1)) n).getD (n - 1) 0)=true):=by
 have P:=eV D.perm
 have hn:n<=p.size:=by rw [P.sz]; exact D.top
 have hl:=D.len
 refine ⟨λ i h1 h2=>?_,λ i h1 h2=>?_,λ x hx=>?_⟩
 ·rw [ce hn,if_neg (by lia)]; exact D.tl i h1 h2
 ·rw [ce hn,ce hn]
  by_cases c1:n - (q+1)<=i
  ·rw [if_pos ⟨c1,h2⟩]
   by_cases c2:n - (q+1)<=i - 1
   ·rw [if_pos ⟨c2,by lia⟩]
    have:=(D.like (n - (q+1)+n - 1 - (i - 1)) (by lia) (by lia)).1
    rw [show n - (q+1)+n - 1 - (i - 1) - 1=n - (q+1)+n - 1 - i by lia] at this
    exact this
   ·rw [if_neg (by lia)]
    have ei:i=n - (q+1):=by lia
    rw [show n - (q+1)+n - 1 - i=n - 1 by lia]
    have j:=D.join i h1 (by lia)
    have k:=(D.alike H (n - 1 - i) i (n - 1) (by lia) (by lia) (by lia)).1
    exact Ah.of_lt H (iE H j k)
  ·rw [if_neg (by lia),if_neg (by lia)]
   exact D.fall i h1 (by lia)
 ·rw [ce hn,if_pos (by lia),show n - (q+1)+n - 1 - (n - 1)=n - (q+1) by lia]
  have k:=(D.alike H (n - 1 - (n - (q+1))) (n - (q+1)) (n - 1) (by lia) (by lia) (by lia)).1
  exact jV H hx k
theorem fQ (H:Lt lt):∀ (f:Nat) (p:Array Nat) (n q:Nat),Dn N lt p n q->n+f<=N->
  Sat N lt (kas_desc f p n q) (λ r=>Dn N lt r.1 r.2.1 r.2.2)
 | 0,p,n,q,D,_=>D
 | f+1,p,n,q,D,hN=>by
  have P:=eV D.perm
  have hl:=D.len
  have hn:n<=p.size:=by rw [P.sz]; exact D.top
  refine ⟨P.bd _ (by lia),P.bd _ (by lia),?_⟩
  cases e:lt (p.getD n 0) (p.getD (n - 1) 0) with
  | true=>
   simp only [if_true]
   have step:∀ p':Array Nat,p'.Perm (Au (As N))->Tl N p' n->(∀ i,0<i->i<n->Ah lt (p'.getD i 0) (p'.getD (i - 1) 0))->lt (p'.getD n 0) (p'.getD (n - 1) 0)=true->Dn N lt p' (n+1) 0:=
    λ p' a b c d=>⟨a,λ i h1 h2=>b i (by lia) h2,λ i h1 h2=>c i h1 (by lia),λ i h1 h2=>by lia,
     λ i h1 h2=>by (have:i=n:=(by lia)); subst this; exact d,by lia,by lia⟩
   by_cases hq:q > 0
   ·rw [if_pos hq]
    obtain ⟨t1,t2,t3⟩:=D.turn H
    refine fQ H f _ (n+1) 0 (step _ (bg _ _ D.perm) t1 t2 ?_) (by lia)
    refine t3 _ ?_
    rw [ce hn,if_neg (by lia)]
    exact e
   ·rw [if_neg hq]
    have hq0:q=0:=by lia
    subst hq0
    refine fQ H f _ (n+1) 0 (step _ D.perm D.tl (λ i h1 h2=>?_) e) (by lia)
    rcases Bk (i+1) n with h | h
    ·exact D.fall i h1 h
    ·exact Ah.of_lt H (D.join i h1 (by lia))
  | false=>
   simp only [Aq,if_false]
   refine ⟨P.bd _ (by lia),P.bd _ (by lia),?_⟩
   cases e2:lt (p.getD (n - 1) 0) (p.getD n 0) with
   | true=>
    simp only [if_true]
    exact D
   | false=>
    simp only [Aq,if_false]
    refine fQ H f p (n+1) (q+1) ⟨D.perm,λ i h1 h2=>D.tl i (by lia) h2,λ i h1 h2=>D.fall i h1 (by lia),λ i h1 h2=>?_,λ i h1 h2=>D.join i h1 (by lia),by lia,by lia⟩ (by lia)
    rcases Bk i n with h | h
    ·exact D.like i (by lia) h
    ·have:i=n:=by lia
     subst this
     refine ⟨⟨e,λ _=>?_⟩,e2⟩
     rw [D.tl i (Ai _) (by lia)]
     exact P.lo D.tl (by lia) D.top
structure Rn (N:Nat) (lt:Nat->Nat->Bool) (p:Array Nat) (m:Nat):Prop where
 perm:p.Perm (Au (As N))
 tl:Tl N p m
 up:Up lt p m
 top:m<=N
theorem Rn.longer (H:Lt lt) {p:Array Nat} (R:Rn N lt p n) (h1:1<=n) (h:n<=m) (hm:m<=N) (ha:∀ i,n<=i->i<m->lt (p.getD i 0) (p.getD (i - 1) 0)=false):Rn N lt p m:=by
 have P:=eV R.perm
 refine ⟨R.perm,λ i a b=>R.tl i (by lia) b,λ i a b=>?_,hm⟩
 rcases Bk i n with c | c
 ·exact R.up i a c
 ·refine ⟨ha i c b,λ _=>?_⟩
  rw [R.tl i c (by lia)]
  exact P.lo (λ j x y=>R.tl j (by lia) y) (by lia) (by lia)
theorem lU (H:Lt lt) {p:Array Nat} (hp:p.Perm (Au (As N))) (T:Tl N p n) (hn:n<=N) (F:∀ i,0<i->i<n->Ah lt (p.getD i 0) (p.getD (i - 1) 0)):Rn N lt (kas_rev p 0 n) n:=by
 have P:=eV hp
 have hs:n<=p.size:=by rw [P.sz]; exact hn
 refine ⟨bg _ _ hp,λ i a b=>?_,λ i a b=>?_,hn⟩
 ·rw [ce hs,if_neg (by lia)]; exact T i a b
 ·rw [ce hs,ce hs,if_pos (by lia),if_pos (by lia)]
  have:=F (0+n - 1 - (i - 1)) (by lia) (by lia)
  rw [show 0+n - 1 - (i - 1) - 1=0+n - 1 - i by lia] at this
  exact this
theorem js (H:Lt lt) {p:Array Nat} (h1:1<=n) (hp:p.Perm (Au (As N))) (T:Tl N p n) (hn:n<=N) (F:∀ i,0<i->i<n->Ah lt (p.getD i 0) (p.getD (i - 1) 0)) :
  Sat N lt (kas_tail3 n N p) (λ r=>1<=r.1/\Rn N lt r.2 r.1):=by
 have R:=lU H hp T hn F
 refine Sat.bind (λ m hm=>?_) _ (jW (eV R.perm).bd (N - n) n h1 (by lia))
 exact ⟨by show 1<=m; lia,R.longer H h1 hm.1 (by lia) hm.2.2.1⟩
theorem fC (H:Lt lt) {p:Array Nat} (D:Dn N lt p (n+1) 0):Sat N lt (kas_descPart n N p) (λ r=>1<=r.1/\Rn N lt r.2 r.1):=by
 have:=D.top
 refine Sat.bind (λ r D'=>?_) _ (fQ H (N - (n+1)) p (n+1) 0 D (by lia))
 have hl:=D'.len
 by_cases hq:r.2.2 > 0
 ·rw [if_pos hq]
  obtain ⟨t1,t2,_⟩:=D'.turn H
  exact js H (by lia) (bg _ _ D'.perm) t1 D'.top t2
 ·rw [if_neg hq]
  refine js H (by lia) D'.perm D'.tl D'.top λ i h1 h2=>?_
  rcases Bk (i+(r.2.2+1)) r.2.1 with h | h
  ·exact D'.fall i h1 h
  ·exact Ah.of_lt H (D'.join i h1 (by lia))
theorem aN (i:Nat) (h:i<N):(Au (As N)).getD i 0=i:=by
 simp [AF,h]
theorem nF (H:Lt lt) (h1:1<=N):Sat N lt (kas_count N (Au (As N))) (λ r=>1<=r.1/\Rn N lt r.2 r.1):=by
 have hp:(Au (As N)).Perm (Au (As N)):=FX _
 have P:=eV hp
 have R1:Rn N lt (Au (As N)) 1:=⟨hp,λ i a b=>aN i b,λ i a b=>by lia,h1⟩
 refine Sat.bind (λ n hn=>?_) _ (jW P.bd (N - 1) 1 (Ai _) (by lia))
 obtain ⟨a,b,c,d⟩:=hn
 have R:=R1.longer H (Ai _) a (by lia) c
 by_cases e:n=N
 ·rw [if_pos (by simp [e])]; exact ⟨a,R⟩
 ·rw [if_neg (by simp [e])]
  have dd:=d (by lia)
  rw [aN _ (by lia),aN _ (by lia)] at dd
  by_cases h:n > 1
  ·rw [if_pos h]
   refine ⟨P.bd _ (by lia),P.bd _ (by lia),?_⟩
   rw [aN _ (by lia),aN _ (by lia)]
   cases e2:lt 0 (n - 1) with
   | true=>
    simp only [if_true]
    exact ⟨a,R⟩
   | false=>
    simp only [Aq,if_false]
    have hs:n<=(Au (As N)).size:=by simp; lia
    have le:∀ i j,i<j->j<n->lt j i=false:=λ i j x y=>by
     have:=(R.up.at H x y).1
     rwa [aN _ (by lia),aN _ (by lia)] at this
    have ge:∀ i j,i<j->j<n->lt i j=false:=λ i j x y=>by
     have p1:lt i 0=false:=by
      rcases Bz i with rfl | q
      ·cases e5:lt 0 0 with
       | false=>rfl
       | true=>have:=H.asym _ _ e5; rw [e5] at this; cases this
      ·exact le 0 i q (by lia)
     have p2:lt (n - 1) j=false:=by
      rcases Bk j (n - 1) with q | q
      ·exact le j (n - 1) q (by lia)
      ·have:j=n - 1:=by lia
       subst this
       cases e5:lt (n - 1) (n - 1) with
       | false=>rfl
       | true=>have:=H.asym _ _ e5; rw [e5] at this; cases this
     exact H.tr _ _ _ p1 (H.tr _ _ _ e2 p2)
    have g:∀ i,i<N->(kas_rev (Au (As N)) 0 n).getD i 0=if i<n then n - 1 - i else i:=λ i hi=>by
     rw [ce hs]
     by_cases q:i<n
     ·rw [if_pos (by lia),if_pos q,aN _ (by lia)]; lia
     ·rw [if_neg (by lia),if_neg q,aN _ hi]
    refine fC H ⟨bg _ _ hp,λ i x y=>?_,λ i x y=>?_,λ i x y=>by lia,λ i x y=>?_,by lia,by lia⟩
    ·rw [g i y,if_neg (by lia)]
    ·rw [g i (by lia),g (i - 1) (by lia),if_pos (by lia),if_pos (by lia)]
     exact ⟨le _ _ (by lia) (by lia),λ _=>by lia⟩
    ·have ei:i=n:=by lia
     subst ei
     rw [g i (by lia),g (i - 1) (by lia),if_neg (by lia),if_pos (by lia),show i - 1 - (i - 1)=0 by lia]
     exact jV H dd e2
  ·rw [if_neg h]
   have:n=1:=by lia
   subst this
   refine fC H ⟨hp,λ i x y=>aN i y,λ i x y=>by lia,λ i x y=>by lia,λ i x y=>?_,by lia,by lia⟩
   have:i=1:=by lia
   subst this
   rw [aN _ (by lia),aN _ (by lia)]
   exact dd
theorem Rn.put (H:Lt lt) {p:Array Nat} (R:Rn N lt p k) (hk:k<N) (hm:m<=k) (a:∀ i,i<m->lt k (p.getD i 0)=false) (b:∀ i,m<=i->i<k->lt k (p.getD i 0)=true):Rn N lt (bubble p k (k - m)) (k+1):=by
 have P:=eV R.perm
 have hs:k<p.size:=by rw [P.sz]; exact hk
 have ek:p.getD k 0=k:=R.tl k (Ai _) hk
 refine ⟨iF _ _ R.perm,λ i x y=>?_,λ i x y=>?_,hk⟩
 ·rw [fP hs hm,if_neg (by lia),if_neg (by lia)]; exact R.tl i (by lia) y
 ·rw [fP hs hm,fP hs hm,ek]
  rcases Bk i m with c | c
  ·rw [if_neg (by lia),if_neg (by lia),if_neg (by lia),if_neg (by lia)]
   exact R.up i x (by lia)
  ·by_cases c1:i=m
   ·rw [if_neg (by lia),if_neg (by lia),if_pos c1]
    exact ⟨a _ (by lia),λ _=>P.lo R.tl (by lia) (by lia)⟩
   ·by_cases c2:i=m+1
    ·rw [if_pos (by lia),if_neg (by lia),if_pos (by lia)]
     exact Ah.of_lt H (b _ (by lia) (by lia))
    ·rw [if_neg (by lia),if_pos (by lia),if_neg (by lia),if_pos (by lia)]
     exact R.up (i - 1) (by lia) (by lia)
end
noncomputable abbrev SM:=StateT SortSt Sem
structure Orc where
 prog:Program
 w:World
 A:Around
 E:Value->Shared->Prop
 κ:SortKind
 it:Array Keyed
 N:Nat
 lt:Nat->Nat->Bool
 I:Shared->Prop
 hc:∀ i j s,i<N->j<N->I s->kas_cmp prog w A κ it i j (λ b s'=>b=lt i j/\I s') s
structure Ab where
 p:Array Nat
 pd:Array (Nat×Nat×Nat)
 mg:Nat
noncomputable def Ab.st (O:Orc) (b:Ab):SortSt:=BI O.κ (b.p.map (kas_item O.it)) b.pd b.mg none
noncomputable def W (O:Orc) {α:Type} (m:SM α) (Q:α->Ab->Prop) (b:Ab):Prop:=
 ∀ s,O.I s->kasC (model O.prog O.w) O.A O.E m (λ a st s'=>O.I s'/\∃ b':Ab,st=b'.st O/\Q a b') (b.st O) s
section
variable {O:Orc} {α β:Type} {b:Ab}
theorem W.pure {a:α} {Q:α->Ab->Prop} (h:Q a b):W O (Gn a) Q b:=λ s hs=>kasC_pure ⟨hs,b,rfl,h⟩
theorem W.bind {m:SM α} {f:α->SM β} {Q:β->Ab->Prop} (h:W O m (λ a b'=>W O (f a) Q b') b):W O (m >>= f) Q b:=λ s hs=>
 kasC_bind (wpAny_mono (h s hs) (λ r s' ⟨i,b',e,q⟩=>by rw [e]; exact q s' i) λ _ _ z=>z)
theorem W.mono {m:SM α} {Q Q':α->Ab->Prop} (h:W O m Q b) (k:∀ a b',Q a b'->Q' a b'):W O m Q' b:=λ s hs=>
 wpAny_mono (h s hs) (λ r s' ⟨i,b',e,q⟩=>⟨i,b',e,k _ _ q⟩) λ _ _ z=>z
theorem W.ite {c:Prop} [Decidable c] {m m':SM α} {Q:α->Ab->Prop} (h:c->W O m Q b) (h':¬ c->W O m' Q b):W O (if c then m else m') Q b:=by
 by_cases q:c
 ·rw [if_pos q]; exact h q
 ·rw [if_neg q]; exact h' q
theorem W.get {Q:SortSt->Ab->Prop} (h:Q (b.st O) b):W O (Gf:SM SortSt) Q b:=λ s hs=>kasC_get ⟨hs,b,rfl,h⟩
theorem W.modify {f:SortSt->SortSt} {Q:PUnit->Ab->Prop} (b':Ab) (e:f (b.st O)=b'.st O) (h:Q ⟨⟩ b'):W O (_root_.modify f:SM PUnit) Q b:=λ s hs=>kasC_modify ⟨hs,b',e,h⟩
theorem W.rule {r:String} {Q:Unit->Ab->Prop} (h:Q () b):W O (liftM (PySem.rule r):SM Unit) Q b:=λ s hs=>kasC_lift (wpAny_rule ⟨hs,b,rfl,h⟩)
theorem W.lt {Q:Option Bool->Ab->Prop} (hi:i<O.N) (hj:j<O.N) (h:Q (some (O.lt i j)) b):W O (lt' (kas_item O.it i) (kas_item O.it j)) Q b:=λ s hs=>by
 rw [lt'_eq]
 refine kasC_bind (kasC_get ?_)
 refine kasC_bind (kasC_lift (wpAny_attempt (wpAny_mono (O.hc i j s hi hj hs) (λ c s' hc=>?_) λ _ _ hF=>hF.elim)))
 obtain ⟨rfl,hs'⟩:=hc
 exact kasC_pure ⟨hs',b,rfl,h⟩
theorem vV {xs:Array Nat} (h:k<xs.size) (f:Nat->Keyed):(xs.map f)[k]? = some (f (xs.getD k 0)):=by
 have e:xs.getD k 0=xs[k]:=by simp [AF,h]
 rw [e]; simp [h]
theorem W.elem {xs:Array Nat} {Q:Keyed->Ab->Prop} (hk:k<xs.size) (h:Q (kas_item O.it (xs.getD k 0)) b):W O (elem' (xs.map (kas_item O.it)) k) Q b:=by
 rw [elem'_eq,vV hk]; exact W.pure h
theorem W.ltAt {Q:Option Bool->Ab->Prop} (hi:i<b.p.size) (hj:j<b.p.size) (hN:∀ k,k<b.p.size->b.p.getD k 0<O.N) (h:Q (some (O.lt (b.p.getD i 0) (b.p.getD j 0))) b):W O (ltAt' i j) Q b:=by
 rw [ltAt'_eq]
 refine W.bind (W.get ?_)
 exact W.bind (W.elem hi (W.bind (W.elem hj (W.lt (hN i hi) (hN j hj) h))))
theorem W.forIn {γ:Type} {l:List Nat} {c:γ} {f:Nat->γ->SM (ForInStep γ)} {D:γ->Ab->Prop} (J:Nat->γ->Ab->Prop) (h0:J l.length c b)
  (hs:∀ x k c b,J (k+1) c b->W O (f x c) (λ r b'=>match r with | .done c'=>D c' b' | .yield c'=>J k c' b') b) (hd:∀ c b,J 0 c b->D c b):W O (Ep l c f) D b:=by
 induction l generalizing c b with
 | nil=>exact λ s hi=>kasC_nil ⟨hi,b,rfl,hd c b h0⟩
 | cons x l ih=>
  intro s hi
  refine kasC_cons (wpAny_mono (hs x l.length c b h0 s hi) (λ r s' ⟨i,b',e,q⟩=>?_) λ _ _ z=>z)
  obtain ⟨r,st⟩:=r
  have e:st=b'.st O:=e
  subst e
  cases r with
  | done c'=>exact ⟨i,b',rfl,q⟩
  | yield c'=>exact ih q s' i
theorem W.range {γ:Type} {x y:Nat} {c:γ} {f:Nat->γ->SM (ForInStep γ)} {D:γ->Ab->Prop} (J:Nat->γ->Ab->Prop) (h0:J (y - x) c b)
  (hs:∀ x k c b,J (k+1) c b->W O (f x c) (λ r b'=>match r with | .done c'=>D c' b' | .yield c'=>J k c' b') b) (hd:∀ c b,J 0 c b->D c b):W O (Ep [x:y] c f) D b:=λ s hi=>
 kasC_range (W.forIn (l:=AM x (y - x)) J (by rw [List.length_range']; exact h0) hs hd s hi)
end
noncomputable def gal:Bool->Keyed->Array Keyed->Nat->Nat->Nat->SM (Option Nat):=sortPriv% PySem.Builtin.gallop
noncomputable def byd (lf:Bool) (ky:Keyed) (ar:Array Keyed) (bs i:Nat):SM (Option Bool):=do
 let z <-elem' ar (bs+i)
 if lf then lt' z ky else return (<-lt' ky z).map (!·)
theorem vW (lf:Bool) (ky:Keyed) (ar:Array Keyed) (bs m hn:Nat):gal lf ky ar bs m hn=(do
 let mut lo1:=0
 let mut of1:=1
 let mut a1:=0
 let mut b1:=0
 let some rt <-byd lf ky ar bs hn | return none
 if rt then
  let mx:=m - hn
  for _ in [0:m] do
   if of1>=mx then break
   let some mo <-byd lf ky ar bs (hn+of1) | return none
   if !mo then break
   lo1:=of1
   of1:=2*of1+1
  a1:=hn+lo1+1
  b1:=hn+min of1 mx
 else
  let mx:=hn+1
  for _ in [0:m] do
   if of1>=mx then break
   let some fd <-byd lf ky ar bs (hn - of1) | return none
   if fd then break
   lo1:=of1
   of1:=2*of1+1
  a1:=hn+1 - min of1 mx
  b1:=hn - lo1
 for _ in [0:m] do
  if a1>=b1 then break
  let md:=a1+(b1 - a1) / 2
  let some mo <-byd lf ky ar bs md | return none
  if mo then a1:=md+1 else b1:=md
 return some b1):=rfl
section
variable {O:Orc} {b:Ab}
noncomputable def bey (O:Orc) (lf:Bool) (k:Nat) (xs:Array Nat) (bs i:Nat):Bool:=if lf then O.lt (xs.getD (bs+i) 0) k else !(O.lt k (xs.getD (bs+i) 0))
theorem W.byd {lf:Bool} {k:Nat} {xs:Array Nat} {bs i:Nat} {Q:Option Bool->Ab->Prop} (hk:k<O.N) (hx:∀ j,j<xs.size->xs.getD j 0<O.N) (hi:bs+i<xs.size) (h:Q (some (bey O lf k xs bs i)) b) :
  W O (byd lf (kas_item O.it k) (xs.map (kas_item O.it)) bs i) Q b:=by
 unfold L2.byd
 refine W.bind (W.elem hi ?_)
 unfold bey at h
 cases lf with
 | true=>
  rw [if_pos rfl] at h ⊢
  exact W.lt (hx _ hi) hk h
 | false=>
  rw [if_neg Ao] at h ⊢
  exact W.bind (W.lt hk (hx _ hi) (W.pure h))
theorem W.gal {lf:Bool} {xs:Array Nat} {bs hn K:Nat} {Q:Option Nat->Ab->Prop} (hk:k<O.N) (hx:∀ j,j<xs.size->xs.getD j 0<O.N) (hm:bs+m<=xs.size) (hh:hn<m) (hK:K<=m)
  (h1:∀ i,i<K->bey O lf k xs bs i=true) (h2:∀ i,K<=i->i<m->bey O lf k xs bs i=false) (h:Q (some K) b):W O (gal lf (kas_item O.it k) (xs.map (kas_item O.it)) bs m hn) Q b:=by
 have yes:∀ {i},bey O lf k xs bs i=true->i<m->i<K:=λ {i} e hi=>by
  rcases Bk i K with z | z
  ·exact z
  ·rw [h2 i z hi] at e; cases e
 have no:∀ {i},bey O lf k xs bs i=false->K<=i:=λ {i} e=>by
  rcases Bk i K with z | z
  ·rw [h1 i z] at e; cases e
  ·exact z
 rw [vW]
 refine W.bind (W.byd hk hx (by lia) ?_)
 dsimp only
 cases e0:bey O lf k xs bs hn with
 | true=>
  simp only [if_true]
  have h0:=yes e0 hh
  refine W.bind (W.range (D:=λ c b'=>b'=b/\c.1=none/\hn+c.2.1<K/\K<=hn+min c.2.2 (m - hn)) (λ j c b'=>b'=b/\c.1=none/\hn+c.2.1<K/\m+1<=c.2.2+j) ⟨rfl,rfl,h0,by simp; lia⟩ ?_ ?_ |>.mono λ c b' hc=>?_)
  ·rintro x j ⟨c1,c2,c3⟩ b' ⟨eb,e1,e2,e3⟩
   subst b'
   dsimp only at e1 e2 e3 ⊢
   subst e1
   by_cases hge:c3>=m - hn
   ·rw [if_pos hge]
    exact W.pure ⟨rfl,rfl,e2,by show K<=hn+min c3 (m - hn); lia⟩
   ·rw [if_neg hge]
    refine W.bind (W.byd hk hx (by lia) ?_)
    cases e:bey O lf k xs bs (hn+c3) with
    | true=>
     simp only [Cw,Aq,if_false]
     have:=yes e (by lia)
     exact W.pure ⟨rfl,rfl,this,by show m+1<=2*c3+1+j; lia⟩
    | false=>
     simp only [Bool.not_false,if_true]
     have:=no e
     exact W.pure ⟨rfl,rfl,e2,by show K<=hn+min c3 (m - hn); lia⟩
  ·rintro ⟨c1,c2,c3⟩ b' ⟨eb,e1,e2,e3⟩
   subst b'
   exact ⟨rfl,e1,e2,by show K<=hn+min c3 (m - hn); dsimp only at e3; lia⟩
  ·obtain ⟨c1,c2,c3⟩:=c
   obtain ⟨eb,e1,e2,e3⟩:=hc
   subst b'
   dsimp only at e1 e2 e3 ⊢
   subst e1
   dsimp only
   refine W.bind (W.range (D:=λ c b'=>b'=b/\c.1=none/\c.2.2=K) (λ j c b'=>b'=b/\c.1=none/\c.2.1<=K/\K<=c.2.2/\c.2.2<=m/\c.2.2 - c.2.1<=j) ⟨rfl,rfl,by show hn+c2+1<=K; lia,by show K<=hn+min c3 (m - hn); exact e3,by show hn+min c3 (m - hn)<=m; lia,by show hn+min c3 (m - hn) - (hn+c2+1)<=m - 0; lia⟩ ?_ ?_ |>.mono λ c b' hc=>?_)
   ·rintro x j ⟨c1,c2,c3⟩ b' ⟨eb,e1,e2,e3,e4,e5⟩
    subst b'
    dsimp only at e1 e2 e3 e4 e5 ⊢
    subst e1
    by_cases hge:c2>=c3
    ·rw [if_pos hge]
     exact W.pure ⟨rfl,rfl,by show c3=K; lia⟩
    ·rw [if_neg hge]
     refine W.bind (W.byd hk hx (by lia) ?_)
     cases e:bey O lf k xs bs (c2+(c3 - c2) / 2) with
     | true=>
      simp only [if_true]
      have:=yes e (by lia)
      exact W.pure ⟨rfl,rfl,by show c2+(c3 - c2) / 2+1<=K; lia,e3,e4,by show c3 - (c2+(c3 - c2) / 2+1)<=j; lia⟩
     | false=>
      simp only [Aq,if_false]
      have:=no e
      exact W.pure ⟨rfl,rfl,e2,this,by show c2+(c3 - c2) / 2<=m; lia,by show c2+(c3 - c2) / 2 - c2<=j; lia⟩
   ·rintro ⟨c1,c2,c3⟩ b' ⟨eb,e1,e2,e3,e4,e5⟩
    subst b'
    exact ⟨rfl,e1,by show c3=K; dsimp only at e2 e3 e5; lia⟩
   ·obtain ⟨c1,c2,c3⟩:=c
    obtain ⟨eb,e1,e2⟩:=hc
    subst b'
    dsimp only at e1 e2 ⊢
    subst e1 e2
    exact W.pure h
 | false=>
  simp only [Aq,if_false]
  have h0:=no e0
  refine W.bind (W.range (D:=λ c b'=>b'=b/\c.1=none/\K+c.2.1<=hn/\hn+1 - min c.2.2 (hn+1)<=K) (λ j c b'=>b'=b/\c.1=none/\K+c.2.1<=hn/\m+1<=c.2.2+j) ⟨rfl,rfl,h0,by simp; lia⟩ ?_ ?_ |>.mono λ c b' hc=>?_)
  ·rintro x j ⟨c1,c2,c3⟩ b' ⟨eb,e1,e2,e3⟩
   subst b'
   dsimp only at e1 e2 e3 ⊢
   subst e1
   by_cases hge:c3>=hn+1
   ·rw [if_pos hge]
    exact W.pure ⟨rfl,rfl,e2,by show hn+1 - min c3 (hn+1)<=K; lia⟩
   ·rw [if_neg hge]
    refine W.bind (W.byd hk hx (by lia) ?_)
    cases e:bey O lf k xs bs (hn - c3) with
    | true=>
     simp only [if_true]
     have:=yes e (by lia)
     exact W.pure ⟨rfl,rfl,e2,by show hn+1 - min c3 (hn+1)<=K; lia⟩
    | false=>
     simp only [Aq,if_false]
     have:=no e
     exact W.pure ⟨rfl,rfl,by show K+c3<=hn; lia,by show m+1<=2*c3+1+j; lia⟩
  ·rintro ⟨c1,c2,c3⟩ b' ⟨eb,e1,e2,e3⟩
   subst b'
   exact ⟨rfl,e1,e2,by show hn+1 - min c3 (hn+1)<=K; dsimp only at e3; lia⟩
  ·obtain ⟨c1,c2,c3⟩:=c
   obtain ⟨eb,e1,e2,e3⟩:=hc
   subst b'
   dsimp only at e1 e2 e3 ⊢
   subst e1
   dsimp only
   refine W.bind (W.range (D:=λ c b'=>b'=b/\c.1=none/\c.2.2=K) (λ j c b'=>b'=b/\c.1=none/\c.2.1<=K/\K<=c.2.2/\c.2.2<=m/\c.2.2 - c.2.1<=j) ⟨rfl,rfl,by show hn+1 - min c3 (hn+1)<=K; exact e3,by show K<=hn - c2; lia,by show hn - c2<=m; lia,by show hn - c2 - (hn+1 - min c3 (hn+1))<=m - 0; lia⟩ ?_ ?_ |>.mono λ c b' hc=>?_)
   ·rintro x j ⟨c1,c2,c3⟩ b' ⟨eb,e1,e2,e3,e4,e5⟩
    subst b'
    dsimp only at e1 e2 e3 e4 e5 ⊢
    subst e1
    by_cases hge:c2>=c3
    ·rw [if_pos hge]
     exact W.pure ⟨rfl,rfl,by show c3=K; lia⟩
    ·rw [if_neg hge]
     refine W.bind (W.byd hk hx (by lia) ?_)
     cases e:bey O lf k xs bs (c2+(c3 - c2) / 2) with
     | true=>
      simp only [if_true]
      have:=yes e (by lia)
      exact W.pure ⟨rfl,rfl,by show c2+(c3 - c2) / 2+1<=K; lia,e3,e4,by show c3 - (c2+(c3 - c2) / 2+1)<=j; lia⟩
     | false=>
      simp only [Aq,if_false]
      have:=no e
      exact W.pure ⟨rfl,rfl,e2,this,by show c2+(c3 - c2) / 2<=m; lia,by show c2+(c3 - c2) / 2 - c2<=j; lia⟩
   ·rintro ⟨c1,c2,c3⟩ b' ⟨eb,e1,e2,e3,e4,e5⟩
    subst b'
    exact ⟨rfl,e1,by show c3=K; dsimp only at e2 e3 e5; lia⟩
   ·obtain ⟨c1,c2,c3⟩:=c
    obtain ⟨eb,e1,e2⟩:=hc
    subst b'
    dsimp only at e1 e2 ⊢
    subst e1 e2
    exact W.pure h
end
noncomputable def setMG:Nat->SM Unit:=sortPriv% PySem.Builtin.setMinGallop
noncomputable def mLo:Array Keyed->Array Keyed->SM (Array Keyed):=sortPriv% PySem.Builtin.mergeLo
theorem qb (g:Nat):setMG g=_root_.modify λ st=>BI (kindOf st) (arrOf st) (pendingOf st) g (failedOf st):=rfl
theorem vX (a b:Array Keyed):mLo a b=(do
 rule "list.sort.merge-lo"
 let tt:=a.size+b.size
 let dn (o:Array Keyed) (i j:Nat):=o++a.extract i a.size++b.extract j b.size
 let la (o:Array Keyed) (i j:Nat):=o++b.extract j b.size++a.extract i a.size
 let mut o:Array Keyed:=#[<-elem' b 0]
 let mut i:=0
 let mut j:=1
 if j == b.size then return dn o i j
 if i+1 == a.size then return la o i j
 let mut mg:=gallopOf (<-get)
 for _ in [0:tt] do
  let mut ca:=0
  let mut cb:=0
  for _ in [0:tt] do
   let some bw <-lt' (<-elem' b j) (<-elem' a i) | return dn o i j
   if bw then
    o:=o.push (<-elem' b j); j:=j+1; cb:=cb+1; ca:=0
    if j == b.size then return dn o i j
    if cb>=mg then break
   else
    o:=o.push (<-elem' a i); i:=i+1; ca:=ca+1; cb:=0
    if i+1 == a.size then return la o i j
    if ca>=mg then break
  rule "list.sort.gallop"
  mg:=mg+1
  for _ in [0:tt] do
   if mg > 1 then mg:=mg - 1
   setMG mg
   let some k <-gal false (<-elem' b j) a i (a.size - i) 0 | return dn o i j
   ca:=k
   if k > 0 then
    o:=o++a.extract i (i+k); i:=i+k
    if i+1 == a.size then return la o i j
    if i == a.size then return dn o i j
   o:=o.push (<-elem' b j); j:=j+1
   if j == b.size then return dn o i j
   let some k <-gal true (<-elem' a i) b j (b.size - j) 0 | return dn o i j
   cb:=k
   if k > 0 then
    o:=o++b.extract j (j+k); j:=j+k
    if j == b.size then return dn o i j
   o:=o.push (<-elem' a i); i:=i+1
   if i+1 == a.size then return la o i j
   if ca<7 && cb<7 then break
  mg:=mg+1
  setMG mg
 unsupported "internal:list.sort.merge-bound"):=rfl
section
variable {O:Orc} {b:Ab}
theorem W.setMG {g:Nat} {Q:Unit->Ab->Prop} (h:Q () { b with mg:=g }):W O (setMG g) Q b:=by
 rw [qb]; exact W.modify { b with mg:=g } rfl h
structure Two (O:Orc) (xs ys:Array Nat):Prop where
 H:Lt O.lt
 nx:∀ i,i<xs.size->xs.getD i 0<O.N
 ny:∀ i,i<ys.size->ys.getD i 0<O.N
 sx:xs.toList.Pairwise (Ah O.lt)
 sy:ys.toList.Pairwise (Ah O.lt)
 xy:∀ x∈xs.toList,∀ y∈ys.toList,x<y
 x1:0<xs.size
 y1:0<ys.size
noncomputable def jX (O:Orc) (xs ys:Array Nat) (rs:Array Nat):Prop:=rs.toList.Perm (xs.toList++ys.toList)/\rs.toList.Pairwise (Ah O.lt)
structure Lw (O:Orc) (xs ys os:Array Nat) (i j:Nat):Prop where
 pm:(os.toList++(xs.toList.drop i++ys.toList.drop j)).Perm (xs.toList++ys.toList)
 sa:(os.toList++xs.toList.drop i).Pairwise (Ah O.lt)
 sb:(os.toList++ys.toList.drop j).Pairwise (Ah O.lt)
 ti:i<=xs.size
 tj:j<=ys.size
theorem fo {xs:Array Nat} (h:i<xs.size):xs.toList.drop i=xs.getD i 0::xs.toList.drop (i+1):=by
 have h':i<xs.toList.length:=by simpa using h
 rw [Cj h']
 congr 1
 simp [AF,h]
variable {xs ys os:Array Nat} {i j k:Nat}
theorem jt {i:Nat} (h:i<xs.size):xs.getD i 0∈xs.toList:=by
 have:xs.getD i 0=xs[i]:=by simp [AF,h]
 rw [this]; simp
theorem Two.ah (T:Two O xs ys) {x y:Nat} (hx:x∈xs.toList) (hy:y∈ys.toList) (h:O.lt y x=false):Ah O.lt x y:=⟨h,λ _=>T.xy x hx y hy⟩
theorem fq (xs:Array Nat) (i:Nat):(xs.extract i xs.size).toList=xs.toList.drop i:=by
 rw [B0,Bh]
 exact AR (by simp)
theorem Lw.done (L:Lw O xs ys os i j) (h:j=ys.size):jX O xs ys (os++xs.extract i xs.size++ys.extract j ys.size):=by
 subst h
 have e:(os++xs.extract i xs.size++ys.extract ys.size ys.size).toList=os.toList++xs.toList.drop i:=by rw [A3,A3,fq,fq]; simp
 have pm:=L.pm
 have e2:ys.toList.drop ys.size=[]:=by simp
 rw [e2,B8] at pm
 exact ⟨by rw [e]; exact pm,by rw [e]; exact L.sa⟩
theorem Lw.done2 (L:Lw O xs ys os i j) (h:i=xs.size):jX O xs ys (os++xs.extract i xs.size++ys.extract j ys.size):=by
 subst h
 have e:(os++xs.extract xs.size xs.size++ys.extract j ys.size).toList=os.toList++ys.toList.drop j:=by rw [A3,A3,fq,fq]; simp
 have pm:=L.pm
 have e2:xs.toList.drop xs.size=[]:=by simp
 rw [e2,Cz] at pm
 exact ⟨by rw [e]; exact pm,by rw [e]; exact L.sb⟩
theorem Lw.last (T:Two O xs ys) (L:Lw O xs ys os i j) (h:i+1=xs.size) (hl:∀ y∈ys.toList,O.lt y (xs.getD (xs.size - 1) 0)=true):jX O xs ys (os++ys.extract j ys.size++xs.extract i xs.size):=by
 have e:(os++ys.extract j ys.size++xs.extract i xs.size).toList=os.toList++ys.toList.drop j++xs.toList.drop i:=by rw [A3,A3,fq,fq]
 refine ⟨?_,?_⟩
 ·rw [e,A0]
  exact ((B5 _).append BV).trans L.pm
 ·rw [e]
  have hd:xs.toList.drop i=[xs.getD (xs.size - 1) 0]:=by
   rw [fo (by lia)]
   have:xs.toList.drop (i+1)=[]:=by rw [h]; simp
   rw [this,show xs.size - 1=i by lia]
  refine An.mpr ⟨L.sb,(An.mp L.sa).2.1,λ a ha c hc=>?_⟩
  rcases AO.mp ha with ha | ha
  ·exact (An.mp L.sa).2.2 a ha c hc
  ·rw [hd] at hc
   rw [AJ.mp hc]
   exact Ah.of_lt T.H (hl a (Ck ha))
theorem Lw.stepB (T:Two O xs ys) (L:Lw O xs ys os i j) (hi:i<xs.size) (hj:j<ys.size) (h:O.lt (ys.getD j 0) (xs.getD i 0)=true):Lw O xs ys (os.push (ys.getD j 0)) i (j+1):=by
 have e:(os.push (ys.getD j 0)).toList=os.toList++[ys.getD j 0]:=by simp
 have hy:=fo hj
 have pm:=L.pm; have sa:=L.sa; have sb:=L.sb
 rw [hy] at pm sb
 refine ⟨?_,?_,?_,L.ti,by lia⟩
 ·rw [e,A0]
  refine FY (EA _ ?_) pm
  exact (Dg (a:=ys.getD j 0) (l₁:=xs.toList.drop i)).symm
 ·rw [e,A0]
  obtain ⟨s1,s2,s3⟩:=An.mp sa
  obtain ⟨t1,t2,t3⟩:=An.mp sb
  refine An.mpr ⟨s1,BA.mpr ⟨λ c hc=>?_,s2⟩,λ a ha c hc=>?_⟩
  ·rw [fo hi] at hc s2
   rcases Al.mp hc with rfl | hc
   ·exact Ah.of_lt T.H h
   ·exact (Ah.of_lt T.H h).trans T.H ((BA.mp s2).1 c hc)
  ·rcases Al.mp hc with rfl | hc
   ·exact t3 a ha _ (A1 ..)
   ·exact s3 a ha c hc
 ·rw [e,A0]; exact sb
theorem Lw.stepA (T:Two O xs ys) (L:Lw O xs ys os i j) (hi:i<xs.size) (hj:j<ys.size) (h:O.lt (ys.getD j 0) (xs.getD i 0)=false):Lw O xs ys (os.push (xs.getD i 0)) (i+1) j:=by
 have e:(os.push (xs.getD i 0)).toList=os.toList++[xs.getD i 0]:=by simp
 have hx:=fo hi
 have pm:=L.pm; have sa:=L.sa; have sb:=L.sb
 rw [hx] at pm sa
 refine ⟨?_,?_,?_,by lia,L.tj⟩
 ·rw [e,A0]; exact pm
 ·rw [e,A0]; exact sa
 ·rw [e,A0]
  obtain ⟨s1,s2,s3⟩:=An.mp sa
  obtain ⟨t1,t2,t3⟩:=An.mp sb
  have h0:Ah O.lt (xs.getD i 0) (ys.getD j 0):=T.ah (jt hi) (jt hj) h
  refine An.mpr ⟨s1,BA.mpr ⟨λ c hc=>?_,t2⟩,λ a ha c hc=>?_⟩
  ·rw [fo hj] at hc t2
   rcases Al.mp hc with rfl | hc
   ·exact h0
   ·exact h0.trans T.H ((BA.mp t2).1 c hc)
  ·rcases Al.mp hc with rfl | hc
   ·exact s3 a ha _ (A1 ..)
   ·exact t3 a ha c hc
theorem kG {os xs:Array Nat} {i k:Nat} (h:i+k<xs.size):(os++xs.extract i (i+k)).push (xs.getD (i+k) 0)=os++xs.extract i (i+(k+1)):=by
 apply BP.mp
 have e:xs.getD (i+k) 0=xs[i+k]:=by simp [AF,h]
 rw [e]
 simp only [C8,A3,B0,A0]
 congr 1
 have hl:k<(xs.toList.drop i).length:=by simp; lia
 rw [Bh,Bh,show i+k - i=k by lia,show i+(k+1) - i=k+1 by lia,BQ hl]
 simp
theorem Lw.manyA (T:Two O xs ys) (hj:j<ys.size):∀ k,Lw O xs ys os i j->i+k<=xs.size->(∀ d,d<k->O.lt (ys.getD j 0) (xs.getD (i+d) 0)=false)->Lw O xs ys (os++xs.extract i (i+k)) (i+k) j
 | 0,L,_,_=>by
  have e:os++xs.extract i (i+0)=os:=by apply BP.mp; simp
  rw [e]; exact L
 | k+1,L,hk,h=>by
  have L':=Lw.manyA T hj k L (by lia) λ d hd=>h d (by lia)
  have:=L'.stepA T (by lia) hj (h k (by lia))
  rw [kG (by lia)] at this
  exact this
theorem Lw.manyB (T:Two O xs ys) (hi:i<xs.size):∀ k,Lw O xs ys os i j->j+k<=ys.size->(∀ d,d<k->O.lt (ys.getD (j+d) 0) (xs.getD i 0)=true)->Lw O xs ys (os++ys.extract j (j+k)) i (j+k)
 | 0,L,_,_=>by
  have e:os++ys.extract j (j+0)=os:=by apply BP.mp; simp
  rw [e]; exact L
 | k+1,L,hk,h=>by
  have L':=Lw.manyB T hi k L (by lia) λ d hd=>h d (by lia)
  have:=L'.stepB T hi (by lia) (h k (by lia))
  rw [kG (by lia)] at this
  exact this
theorem ig {P:Nat->Bool}:∀ (m:Nat),(∀ i j,i<=j->j<m->P j=true->P i=true)->∃ K,K<=m/\(∀ i,i<K->P i=true)/\∀ i,K<=i->i<m->P i=false
 | 0,_=>⟨0,Ai _,λ i h=>absurd h (B1 _),λ i _ h=>absurd h (B1 _)⟩
 | m+1,h=>by
  obtain ⟨K,a,c,d⟩:=ig m λ i j h1 h2 h3=>h i j h1 (by lia) h3
  cases e:P m with
  | true=>exact ⟨m+1,Ai _,λ i hi=>h i m (by lia) (by lia) e,λ i h1 h2=>by lia⟩
  | false=>
   refine ⟨K,by lia,c,λ i h1 h2=>?_⟩
   rcases Bk i m with z | z
   ·exact d i h1 z
   ·have:i=m:=by lia
    subst this; exact e
theorem vY {xs:Array Nat} (h:xs.toList.Pairwise (Ah O.lt)) {i j:Nat} (hij:i<j) (hj:j<xs.size):Ah O.lt (xs.getD i 0) (xs.getD j 0):=by
 have:=Bb.mp h i j (by simp; lia) (by simpa using hj) hij
 have e1:xs.getD i 0=xs[i]:=by simp [AF,show i<xs.size by lia]
 have e2:xs.getD j 0=xs[j]:=by simp [AF,hj]
 rw [e1,e2]; simpa using this
theorem Two.monoA (T:Two O xs ys) {y c d:Nat} (h1:c<=d) (h2:i+d<xs.size) (h3:bey O false y xs i d=true):bey O false y xs i c=true:=by
 simp only [bey,Aq,if_false,DV] at h3 ⊢
 rcases BU h1 with rfl | h1
 ·exact h3
 ·exact T.H.tr _ _ _ h3 (vY T.sx (show i+c<i+d by lia) h2).1
theorem Two.monoB (T:Two O xs ys) {x c d:Nat} (h1:c<=d) (h2:j+d<ys.size) (h3:bey O true x ys j d=true):bey O true x ys j c=true:=by
 simp only [bey,if_true] at h3 ⊢
 rcases BU h1 with rfl | h1
 ·exact h3
 ·exact iE T.H h3 (vY T.sy (show j+c<j+d by lia) h2).1
theorem W.mLo {Q:Array Keyed->Ab->Prop} (T:Two O xs ys) (h0:O.lt (ys.getD 0 0) (xs.getD 0 0)=true) (hl:∀ y∈ys.toList,O.lt y (xs.getD (xs.size - 1) 0)=true)
  (h:∀ rs mg,jX O xs ys rs->Q (rs.map (kas_item O.it)) { b with mg:=mg }):W O (mLo (xs.map (kas_item O.it)) (ys.map (kas_item O.it))) Q b:=by
 have x1:=T.x1
 have y1:=T.y1
 have L0:Lw O xs ys #[] 0 0:=⟨by simp,by simpa using T.sx,by simpa using T.sy,AC _,AC _⟩
 have L1:=L0.stepB T x1 y1 h0
 have mpush:∀ (os:Array Nat) (x:Nat),(os.map (kas_item O.it)).push (kas_item O.it x)=(os.push x).map (kas_item O.it):=λ os x=>by rw [Gg]
 have mapp:∀ (os zs:Array Nat),os.map (kas_item O.it)++zs.map (kas_item O.it)=(os++zs).map (kas_item O.it):=λ os zs=>by rw [FG]
 have mext:∀ (zs:Array Nat) (i j:Nat),(zs.map (kas_item O.it)).extract i j=(zs.extract i j).map (kas_item O.it):=λ zs i j=>by rw [DW]
 rw [vX]
 refine W.bind (W.rule ?_)
 refine W.bind (W.elem y1 ?_)
 simp only [DB,mext,mapp]
 have e1:#[kas_item O.it (ys.getD 0 0)]=((#[]:Array Nat).push (ys.getD 0 0)).map (kas_item O.it):=by simp
 rw [e1]
 by_cases c1:(1 == ys.size)=true
 ·rw [if_pos c1]
  simp only [mapp]
  exact W.pure (h _ b.mg (L1.done (by simpa using c1)))
 rw [if_neg c1]
 by_cases c2:(0+1 == xs.size)=true
 ·rw [if_pos c2]
  simp only [mapp]
  exact W.pure (h _ b.mg (L1.last T (by simpa using c2) hl))
 rw [if_neg c2]
 refine W.bind (W.get ?_)
 have ex:∀ {P:Nat->Bool} (m:Nat),(∀ i j,i<=j->j<m->P j=true->P i=true)->∃ K,K<=m/\(∀ i,i<K->P i=true)/\∀ i,K<=i->i<m->P i=false:=λ m h=>ig m h
 have KA:∀ i j,i<xs.size->j<ys.size->∃ K,K<=xs.size - i/\(∀ d,d<K->bey O false (ys.getD j 0) xs i d=true)/\∀ d,K<=d->d<xs.size - i->bey O false (ys.getD j 0) xs i d=false:=λ i j hi hj=>ex _ λ c d h1 h2 h3=>T.monoA h1 (by lia) h3
 have KB:∀ i j,i<xs.size->j<ys.size->∃ K,K<=ys.size - j/\(∀ d,d<K->bey O true (xs.getD i 0) ys j d=true)/\∀ d,K<=d->d<ys.size - j->bey O true (xs.getD i 0) ys j d=false:=λ i j hi hj=>ex _ λ c d h1 h2 h3=>T.monoB h1 (by lia) h3
 have c1:1<ys.size:=by (have:¬ 1=ys.size:=(by simpa using c1)); lia
 have c2:1<xs.size:=by (have:¬ 1=xs.size:=(by simpa using c2)); lia
 refine W.bind (W.range (D:=λ c b1=>b1.p=b.p/\b1.pd=b.pd/\∃ rs:Array Nat,c.1=some (rs.map (kas_item O.it))/\jX O xs ys rs) (λ k c b1=>b1.p=b.p/\b1.pd=b.pd/\c.1=none/\∃ os:Array Nat,c.2.1=os.map (kas_item O.it)/\Lw O xs ys os c.2.2.1 c.2.2.2.1/\c.2.2.1+1<xs.size/\c.2.2.2.1<ys.size/\xs.size+ys.size+1<=c.2.2.1+c.2.2.2.1+k) ⟨rfl,rfl,rfl,_,rfl,L1,c2,c1,by show xs.size+ys.size+1<=0+1+(xs.size+ys.size - 0); lia⟩ ?_ ?_ |>.mono λ c b1 hc=>?_)
 rotate_left
 ·rintro ⟨r,o,i,j,g⟩ b1 ⟨f1,f2,_,os,_,L,hi,hj,hk⟩
  dsimp only at hi hj hk
  exact absurd hk (by lia)
 ·obtain ⟨r,o,i,j,g⟩:=c
  obtain ⟨f1,f2,rs,e,hm⟩:=hc
  dsimp only at e ⊢
  subst e
  have:=h rs b1.mg hm
  obtain ⟨p1,d1,m1⟩:=b1
  have f1:p1=b.p:=f1
  have f2:d1=b.pd:=f2
  subst f1 f2
  exact W.pure this
 rintro x k ⟨r,o,i0,j0,g0⟩ b1 ⟨f1,f2,e,os0,eo,L,hi0,hj0,hk⟩
 dsimp only at e eo hi0 hj0 hk L ⊢
 subst e eo
 refine W.bind (W.range (D:=λ c b1=>b1.p=b.p/\b1.pd=b.pd/\((∃ rs:Array Nat,c.1=some (rs.map (kas_item O.it))/\jX O xs ys rs)\/(c.1=none/\∃ os:Array Nat,c.2.1=os.map (kas_item O.it)/\Lw O xs ys os c.2.2.1 c.2.2.2.1/\c.2.2.1+1<xs.size/\c.2.2.2.1<ys.size/\i0+j0+1<=c.2.2.1+c.2.2.2.1))) (λ k c b1=>b1.p=b.p/\b1.pd=b.pd/\c.1=none/\∃ os:Array Nat,c.2.1=os.map (kas_item O.it)/\Lw O xs ys os c.2.2.1 c.2.2.2.1/\c.2.2.1+1<xs.size/\c.2.2.2.1<ys.size/\i0+j0+(xs.size+ys.size)<=c.2.2.1+c.2.2.2.1+k/\i0+j0<=c.2.2.1+c.2.2.2.1) ⟨f1,f2,rfl,_,rfl,L,hi0,hj0,by show i0+j0+(xs.size+ys.size)<=i0+j0+(xs.size+ys.size - 0)/\i0+j0<=i0+j0; lia⟩ ?_ ?_ |>.mono λ c b1 hc=>?_)
 ·rintro x k ⟨r,o,i,j,ca,cb⟩ b1 ⟨f1,f2,e,os,eo,L,hi,hj,hk1,hk2⟩
  dsimp only at e eo hi hj hk1 hk2 L ⊢
  subst e eo
  refine W.bind (W.elem hj (W.bind (W.elem (by lia) (W.bind (W.lt (T.ny _ hj) (T.nx _ (by lia)) ?_)))))
  cases e:O.lt (ys.getD j 0) (xs.getD i 0) with
  | true=>
   have L':=L.stepB T (by lia) hj e
   simp only [if_true]
   refine W.bind (W.elem hj ?_)
   simp only [mpush,mapp]
   by_cases q:(j+1 == ys.size)=true
   ·rw [if_pos q]
    exact W.pure ⟨f1,f2,.inl ⟨_,rfl,L'.done (by simpa using q)⟩⟩
   ·rw [if_neg q]
    have q':¬ j+1=ys.size:=by simpa using q
    refine W.ite (λ _=>?_) (λ _=>?_)
    ·exact W.pure ⟨f1,f2,.inr ⟨rfl,_,rfl,L',hi,by show j+1<ys.size; lia,by show i0+j0+1<=i+(j+1); lia⟩⟩
    ·exact W.pure ⟨f1,f2,rfl,_,rfl,L',hi,by show j+1<ys.size; lia,by show i0+j0+(xs.size+ys.size)<=i+(j+1)+k/\i0+j0<=i+(j+1); lia⟩
  | false=>
   have L':=L.stepA T (by lia) hj e
   simp only [Aq,if_false]
   refine W.bind (W.elem (by lia) ?_)
   simp only [mpush,mapp]
   by_cases q:(i+1+1 == xs.size)=true
   ·rw [if_pos q]
    exact W.pure ⟨f1,f2,.inl ⟨_,rfl,L'.last T (by simpa using q) hl⟩⟩
   ·rw [if_neg q]
    have q':¬ i+1+1=xs.size:=by simpa using q
    refine W.ite (λ _=>?_) (λ _=>?_)
    ·exact W.pure ⟨f1,f2,.inr ⟨rfl,_,rfl,L',by show i+1+1<xs.size; lia,hj,by show i0+j0+1<=i+1+j; lia⟩⟩
    ·exact W.pure ⟨f1,f2,rfl,_,rfl,L',by show i+1+1<xs.size; lia,hj,by show i0+j0+(xs.size+ys.size)<=i+1+j+k/\i0+j0<=i+1+j; lia⟩
 ·rintro ⟨r,o,i,j,ca,cb⟩ b1 ⟨f1,f2,_,os,_,L,hi,hj,hk1,hk2⟩
  dsimp only at hi hj hk1 hk2
  exact absurd hk1 (by lia)
 obtain ⟨r,o,i1,j1,ca,cb⟩:=c
 obtain ⟨f1,f2,hc⟩:=hc
 dsimp only at hc ⊢
 rcases hc with ⟨rs,e,hm⟩ | ⟨e,os1,eo,L,hi1,hj1,hk1⟩
 ·subst e
  exact W.pure ⟨f1,f2,rs,rfl,hm⟩
 subst e eo
 dsimp only
 refine W.bind (W.rule ?_)
 refine W.bind (W.range (D:=λ c b1=>b1.p=b.p/\b1.pd=b.pd/\((∃ rs:Array Nat,c.1=some (rs.map (kas_item O.it))/\jX O xs ys rs)\/(c.1=none/\∃ os:Array Nat,c.2.1=os.map (kas_item O.it)/\Lw O xs ys os c.2.2.1 c.2.2.2.1/\c.2.2.1+1<xs.size/\c.2.2.2.1<ys.size/\i1+j1<=c.2.2.1+c.2.2.2.1))) (λ k c b1=>b1.p=b.p/\b1.pd=b.pd/\c.1=none/\∃ os:Array Nat,c.2.1=os.map (kas_item O.it)/\Lw O xs ys os c.2.2.1 c.2.2.2.1/\c.2.2.1+1<xs.size/\c.2.2.2.1<ys.size/\i1+j1+(xs.size+ys.size)<=c.2.2.1+c.2.2.2.1+k/\i1+j1<=c.2.2.1+c.2.2.2.1) ⟨f1,f2,rfl,_,rfl,L,hi1,hj1,by show i1+j1+(xs.size+ys.size)<=i1+j1+(xs.size+ys.size - 0)/\i1+j1<=i1+j1; lia⟩ ?_ ?_ |>.mono λ c b1 hc=>?_)
 ·rintro x k ⟨r,o,i,j,g,ca,cb⟩ b1 ⟨f1,f2,e,os,eo,L,hi,hj,hk1,hk2⟩
  dsimp only at e eo hi hj hk1 hk2 L ⊢
  subst e eo
  obtain ⟨K,hK,hK1,hK2⟩:=KA i j (by lia) hj
  have LK:=L.manyA T hj K (by lia) λ d hd=>by have:=hK1 d hd; simpa [bey] using this
  by_cases hg:g > 1
  ·rw [if_pos hg]
   refine W.bind (W.setMG ?_)
   refine W.bind (W.elem hj (W.bind (W.gal (K:=K) (T.ny _ hj) T.nx (by lia) (by lia) hK hK1 hK2 ?_)))
   dsimp only
   by_cases z:K > 0
   ·rw [if_pos z]
    simp only [mapp]
    by_cases q:(i+K+1 == xs.size)=true
    ·rw [if_pos q]
     exact W.pure ⟨f1,f2,.inl ⟨_,rfl,LK.last T (by simpa using q) hl⟩⟩
    rw [if_neg q]
    have q':¬ i+K+1=xs.size:=by simpa using q
    by_cases q1:(i+K == xs.size)=true
    ·rw [if_pos q1]
     exact W.pure ⟨f1,f2,.inl ⟨_,rfl,LK.done2 (by simpa using q1)⟩⟩
    rw [if_neg q1]
    have q1':¬ i+K=xs.size:=by simpa using q1
    have L2:=LK.stepB T (by lia) hj (by have:=hK2 K (Ai _) (by lia); simpa [bey] using this)
    refine W.bind (W.elem hj ?_)
    simp only [mpush,mapp]
    by_cases q2:(j+1 == ys.size)=true
    ·rw [if_pos q2]
     exact W.pure ⟨f1,f2,.inl ⟨_,rfl,L2.done (by simpa using q2)⟩⟩
    rw [if_neg q2]
    have q2':¬ j+1=ys.size:=by simpa using q2
    obtain ⟨K',hK',hB1,hB2⟩:=KB (i+K) (j+1) (by lia) (by lia)
    have LB:=L2.manyB T (by lia) K' (by lia) λ d hd=>by have:=hB1 d hd; simpa [bey] using this
    refine W.bind (W.elem (by lia) (W.bind (W.gal (K:=K') (T.nx _ (by lia)) T.ny (by lia) (by lia) hK' hB1 hB2 ?_)))
    dsimp only
    by_cases z':K' > 0
    ·rw [if_pos z']
     by_cases q4:(j+1+K' == ys.size)=true
     ·rw [if_pos q4]
      exact W.pure ⟨f1,f2,.inl ⟨_,rfl,LB.done (by simpa using q4)⟩⟩
     rw [if_neg q4]
     have q4':¬ j+1+K'=ys.size:=by simpa using q4
     have L3:=LB.stepA T (by lia) (by lia) (by have:=hB2 K' (Ai _) (by lia); simpa [bey] using this)
     refine W.bind (W.elem (by lia) ?_)
     simp only [mpush,mapp]
     by_cases q3:(i+K+1+1 == xs.size)=true
     ·rw [if_pos q3]
      exact W.pure ⟨f1,f2,.inl ⟨_,rfl,L3.last T (by simpa using q3) hl⟩⟩
     ·rw [if_neg q3]
      have q3':¬ i+K+1+1=xs.size:=by simpa using q3
      refine W.ite (λ _=>?_) (λ _=>?_)
      ·exact W.pure ⟨f1,f2,.inr ⟨rfl,_,rfl,L3,by show i+K+1+1<xs.size; lia,by show j+1+K'<ys.size; lia,by show i1+j1<=i+K+1+(j+1+K'); lia⟩⟩
      ·exact W.pure ⟨f1,f2,rfl,_,rfl,L3,by show i+K+1+1<xs.size; lia,by show j+1+K'<ys.size; lia,by show i1+j1+(xs.size+ys.size)<=i+K+1+(j+1+K')+k/\i1+j1<=i+K+1+(j+1+K'); lia⟩
    ·rw [if_neg z']
     have ek:K'=0:=by lia
     have L3:=L2.stepA T (by lia) (by lia) (by have:=hB2 0 (by lia) (by lia); simpa [bey] using this)
     refine W.bind (W.elem (by lia) ?_)
     simp only [mpush,mapp]
     by_cases q3:(i+K+1+1 == xs.size)=true
     ·rw [if_pos q3]
      exact W.pure ⟨f1,f2,.inl ⟨_,rfl,L3.last T (by simpa using q3) hl⟩⟩
     ·rw [if_neg q3]
      have q3':¬ i+K+1+1=xs.size:=by simpa using q3
      refine W.ite (λ _=>?_) (λ _=>?_)
      ·exact W.pure ⟨f1,f2,.inr ⟨rfl,_,rfl,L3,by show i+K+1+1<xs.size; lia,by show j+1<ys.size; lia,by show i1+j1<=i+K+1+(j+1); lia⟩⟩
      ·exact W.pure ⟨f1,f2,rfl,_,rfl,L3,by show i+K+1+1<xs.size; lia,by show j+1<ys.size; lia,by show i1+j1+(xs.size+ys.size)<=i+K+1+(j+1)+k/\i1+j1<=i+K+1+(j+1); lia⟩
   ·rw [if_neg z]
    have ek:K=0:=by lia
    have L2:=L.stepB T (by lia) hj (by have:=hK2 0 (by lia) (by lia); simpa [bey] using this)
    refine W.bind (W.elem hj ?_)
    simp only [mpush,mapp]
    by_cases q2:(j+1 == ys.size)=true
    ·rw [if_pos q2]
     exact W.pure ⟨f1,f2,.inl ⟨_,rfl,L2.done (by simpa using q2)⟩⟩
    rw [if_neg q2]
    have q2':¬ j+1=ys.size:=by simpa using q2
    obtain ⟨K',hK',hB1,hB2⟩:=KB (i) (j+1) (by lia) (by lia)
    have LB:=L2.manyB T (by lia) K' (by lia) λ d hd=>by have:=hB1 d hd; simpa [bey] using this
    refine W.bind (W.elem (by lia) (W.bind (W.gal (K:=K') (T.nx _ (by lia)) T.ny (by lia) (by lia) hK' hB1 hB2 ?_)))
    dsimp only
    by_cases z':K' > 0
    ·rw [if_pos z']
     by_cases q4:(j+1+K' == ys.size)=true
     ·rw [if_pos q4]
      exact W.pure ⟨f1,f2,.inl ⟨_,rfl,LB.done (by simpa using q4)⟩⟩
     rw [if_neg q4]
     have q4':¬ j+1+K'=ys.size:=by simpa using q4
     have L3:=LB.stepA T (by lia) (by lia) (by have:=hB2 K' (Ai _) (by lia); simpa [bey] using this)
     refine W.bind (W.elem (by lia) ?_)
     simp only [mpush,mapp]
     by_cases q3:(i+1+1 == xs.size)=true
     ·rw [if_pos q3]
      exact W.pure ⟨f1,f2,.inl ⟨_,rfl,L3.last T (by simpa using q3) hl⟩⟩
     ·rw [if_neg q3]
      have q3':¬ i+1+1=xs.size:=by simpa using q3
      refine W.ite (λ _=>?_) (λ _=>?_)
      ·exact W.pure ⟨f1,f2,.inr ⟨rfl,_,rfl,L3,by show i+1+1<xs.size; lia,by show j+1+K'<ys.size; lia,by show i1+j1<=i+1+(j+1+K'); lia⟩⟩
      ·exact W.pure ⟨f1,f2,rfl,_,rfl,L3,by show i+1+1<xs.size; lia,by show j+1+K'<ys.size; lia,by show i1+j1+(xs.size+ys.size)<=i+1+(j+1+K')+k/\i1+j1<=i+1+(j+1+K'); lia⟩
    ·rw [if_neg z']
     have ek:K'=0:=by lia
     have L3:=L2.stepA T (by lia) (by lia) (by have:=hB2 0 (by lia) (by lia); simpa [bey] using this)
     refine W.bind (W.elem (by lia) ?_)
     simp only [mpush,mapp]
     by_cases q3:(i+1+1 == xs.size)=true
     ·rw [if_pos q3]
      exact W.pure ⟨f1,f2,.inl ⟨_,rfl,L3.last T (by simpa using q3) hl⟩⟩
     ·rw [if_neg q3]
      have q3':¬ i+1+1=xs.size:=by simpa using q3
      refine W.ite (λ _=>?_) (λ _=>?_)
      ·exact W.pure ⟨f1,f2,.inr ⟨rfl,_,rfl,L3,by show i+1+1<xs.size; lia,by show j+1<ys.size; lia,by show i1+j1<=i+1+(j+1); lia⟩⟩
      ·exact W.pure ⟨f1,f2,rfl,_,rfl,L3,by show i+1+1<xs.size; lia,by show j+1<ys.size; lia,by show i1+j1+(xs.size+ys.size)<=i+1+(j+1)+k/\i1+j1<=i+1+(j+1); lia⟩
  ·rw [if_neg hg]
   refine W.bind (W.setMG ?_)
   refine W.bind (W.elem hj (W.bind (W.gal (K:=K) (T.ny _ hj) T.nx (by lia) (by lia) hK hK1 hK2 ?_)))
   dsimp only
   by_cases z:K > 0
   ·rw [if_pos z]
    simp only [mapp]
    by_cases q:(i+K+1 == xs.size)=true
    ·rw [if_pos q]
     exact W.pure ⟨f1,f2,.inl ⟨_,rfl,LK.last T (by simpa using q) hl⟩⟩
    rw [if_neg q]
    have q':¬ i+K+1=xs.size:=by simpa using q
    by_cases q1:(i+K == xs.size)=true
    ·rw [if_pos q1]
     exact W.pure ⟨f1,f2,.inl ⟨_,rfl,LK.done2 (by simpa using q1)⟩⟩
    rw [if_neg q1]
    have q1':¬ i+K=xs.size:=by simpa using q1
    have L2:=LK.stepB T (by lia) hj (by have:=hK2 K (Ai _) (by lia); simpa [bey] using this)
    refine W.bind (W.elem hj ?_)
    simp only [mpush,mapp]
    by_cases q2:(j+1 == ys.size)=true
    ·rw [if_pos q2]
     exact W.pure ⟨f1,f2,.inl ⟨_,rfl,L2.done (by simpa using q2)⟩⟩
    rw [if_neg q2]
    have q2':¬ j+1=ys.size:=by simpa using q2
    obtain ⟨K',hK',hB1,hB2⟩:=KB (i+K) (j+1) (by lia) (by lia)
    have LB:=L2.manyB T (by lia) K' (by lia) λ d hd=>by have:=hB1 d hd; simpa [bey] using this
    refine W.bind (W.elem (by lia) (W.bind (W.gal (K:=K') (T.nx _ (by lia)) T.ny (by lia) (by lia) hK' hB1 hB2 ?_)))
    dsimp only
    by_cases z':K' > 0
    ·rw [if_pos z']
     by_cases q4:(j+1+K' == ys.size)=true
     ·rw [if_pos q4]
      exact W.pure ⟨f1,f2,.inl ⟨_,rfl,LB.done (by simpa using q4)⟩⟩
     rw [if_neg q4]
     have q4':¬ j+1+K'=ys.size:=by simpa using q4
     have L3:=LB.stepA T (by lia) (by lia) (by have:=hB2 K' (Ai _) (by lia); simpa [bey] using this)
     refine W.bind (W.elem (by lia) ?_)
     simp only [mpush,mapp]
     by_cases q3:(i+K+1+1 == xs.size)=true
     ·rw [if_pos q3]
      exact W.pure ⟨f1,f2,.inl ⟨_,rfl,L3.last T (by simpa using q3) hl⟩⟩
     ·rw [if_neg q3]
      have q3':¬ i+K+1+1=xs.size:=by simpa using q3
      refine W.ite (λ _=>?_) (λ _=>?_)
      ·exact W.pure ⟨f1,f2,.inr ⟨rfl,_,rfl,L3,by show i+K+1+1<xs.size; lia,by show j+1+K'<ys.size; lia,by show i1+j1<=i+K+1+(j+1+K'); lia⟩⟩
      ·exact W.pure ⟨f1,f2,rfl,_,rfl,L3,by show i+K+1+1<xs.size; lia,by show j+1+K'<ys.size; lia,by show i1+j1+(xs.size+ys.size)<=i+K+1+(j+1+K')+k/\i1+j1<=i+K+1+(j+1+K'); lia⟩
    ·rw [if_neg z']
     have ek:K'=0:=by lia
     have L3:=L2.stepA T (by lia) (by lia) (by have:=hB2 0 (by lia) (by lia); simpa [bey] using this)
     refine W.bind (W.elem (by lia) ?_)
     simp only [mpush,mapp]
     by_cases q3:(i+K+1+1 == xs.size)=true
     ·rw [if_pos q3]
      exact W.pure ⟨f1,f2,.inl ⟨_,rfl,L3.last T (by simpa using q3) hl⟩⟩
     ·rw [if_neg q3]
      have q3':¬ i+K+1+1=xs.size:=by simpa using q3
      refine W.ite (λ _=>?_) (λ _=>?_)
      ·exact W.pure ⟨f1,f2,.inr ⟨rfl,_,rfl,L3,by show i+K+1+1<xs.size; lia,by show j+1<ys.size; lia,by show i1+j1<=i+K+1+(j+1); lia⟩⟩
      ·exact W.pure ⟨f1,f2,rfl,_,rfl,L3,by show i+K+1+1<xs.size; lia,by show j+1<ys.size; lia,by show i1+j1+(xs.size+ys.size)<=i+K+1+(j+1)+k/\i1+j1<=i+K+1+(j+1); lia⟩
   ·rw [if_neg z]
    have ek:K=0:=by lia
    have L2:=L.stepB T (by lia) hj (by have:=hK2 0 (by lia) (by lia); simpa [bey] using this)
    refine W.bind (W.elem hj ?_)
    simp only [mpush,mapp]
    by_cases q2:(j+1 == ys.size)=true
    ·rw [if_pos q2]
     exact W.pure ⟨f1,f2,.inl ⟨_,rfl,L2.done (by simpa using q2)⟩⟩
    rw [if_neg q2]
    have q2':¬ j+1=ys.size:=by simpa using q2
    obtain ⟨K',hK',hB1,hB2⟩:=KB (i) (j+1) (by lia) (by lia)
    have LB:=L2.manyB T (by lia) K' (by lia) λ d hd=>by have:=hB1 d hd; simpa [bey] using this
    refine W.bind (W.elem (by lia) (W.bind (W.gal (K:=K') (T.nx _ (by lia)) T.ny (by lia) (by lia) hK' hB1 hB2 ?_)))
    dsimp only
    by_cases z':K' > 0
    ·rw [if_pos z']
     by_cases q4:(j+1+K' == ys.size)=true
     ·rw [if_pos q4]
      exact W.pure ⟨f1,f2,.inl ⟨_,rfl,LB.done (by simpa using q4)⟩⟩
     rw [if_neg q4]
     have q4':¬ j+1+K'=ys.size:=by simpa using q4
     have L3:=LB.stepA T (by lia) (by lia) (by have:=hB2 K' (Ai _) (by lia); simpa [bey] using this)
     refine W.bind (W.elem (by lia) ?_)
     simp only [mpush,mapp]
     by_cases q3:(i+1+1 == xs.size)=true
     ·rw [if_pos q3]
      exact W.pure ⟨f1,f2,.inl ⟨_,rfl,L3.last T (by simpa using q3) hl⟩⟩
     ·rw [if_neg q3]
      have q3':¬ i+1+1=xs.size:=by simpa using q3
      refine W.ite (λ _=>?_) (λ _=>?_)
      ·exact W.pure ⟨f1,f2,.inr ⟨rfl,_,rfl,L3,by show i+1+1<xs.size; lia,by show j+1+K'<ys.size; lia,by show i1+j1<=i+1+(j+1+K'); lia⟩⟩
      ·exact W.pure ⟨f1,f2,rfl,_,rfl,L3,by show i+1+1<xs.size; lia,by show j+1+K'<ys.size; lia,by show i1+j1+(xs.size+ys.size)<=i+1+(j+1+K')+k/\i1+j1<=i+1+(j+1+K'); lia⟩
    ·rw [if_neg z']
     have ek:K'=0:=by lia
     have L3:=L2.stepA T (by lia) (by lia) (by have:=hB2 0 (by lia) (by lia); simpa [bey] using this)
     refine W.bind (W.elem (by lia) ?_)
     simp only [mpush,mapp]
     by_cases q3:(i+1+1 == xs.size)=true
     ·rw [if_pos q3]
      exact W.pure ⟨f1,f2,.inl ⟨_,rfl,L3.last T (by simpa using q3) hl⟩⟩
     ·rw [if_neg q3]
      have q3':¬ i+1+1=xs.size:=by simpa using q3
      refine W.ite (λ _=>?_) (λ _=>?_)
      ·exact W.pure ⟨f1,f2,.inr ⟨rfl,_,rfl,L3,by show i+1+1<xs.size; lia,by show j+1<ys.size; lia,by show i1+j1<=i+1+(j+1); lia⟩⟩
      ·exact W.pure ⟨f1,f2,rfl,_,rfl,L3,by show i+1+1<xs.size; lia,by show j+1<ys.size; lia,by show i1+j1+(xs.size+ys.size)<=i+1+(j+1)+k/\i1+j1<=i+1+(j+1); lia⟩
 ·rintro ⟨r,o,i,j,g,ca,cb⟩ b1 ⟨f1,f2,_,os,_,L,hi,hj,hk1,hk2⟩
  dsimp only at hi hj hk1 hk2
  exact absurd hk1 (by lia)
 obtain ⟨r,o,i2,j2,g2,ca,cb⟩:=c
 obtain ⟨f1,f2,hc⟩:=hc
 dsimp only at hc ⊢
 rcases hc with ⟨rs,e,hm⟩ | ⟨e,os2,eo,L,hi2,hj2,hk2⟩
 ·subst e
  exact W.pure ⟨f1,f2,rs,rfl,hm⟩
 subst e eo
 dsimp only
 exact W.bind (W.setMG (W.pure ⟨f1,f2,rfl,_,rfl,L,hi2,hj2,by show xs.size+ys.size+1<=i2+j2+k; lia⟩))
end
noncomputable def mHi:Array Keyed->Array Keyed->SM (Array Keyed):=sortPriv% PySem.Builtin.mergeHi
theorem vZ (a b:Array Keyed):mHi a b=(do
 rule "list.sort.merge-hi"
 let tt:=a.size+b.size
 let dn (o:Array Keyed) (i j:Nat):=a.extract 0 i++b.extract 0 j++o.reverse
 let fb (o:Array Keyed) (i j:Nat):=b.extract 0 j++a.extract 0 i++o.reverse
 let mut i:=a.size - 1
 let mut j:=b.size
 let mut o:Array Keyed:=#[<-elem' a i]
 if i == 0 then return dn o i j
 if j == 1 then return fb o i j
 let mut mg:=gallopOf (<-get)
 for _ in [0:tt] do
  let mut ca:=0
  let mut cb:=0
  for _ in [0:tt] do
   let some aw <-lt' (<-elem' b (j - 1)) (<-elem' a (i - 1)) | return dn o i j
   if aw then
    i:=i - 1; o:=o.push (<-elem' a i); ca:=ca+1; cb:=0
    if i == 0 then return dn o i j
    if ca>=mg then break
   else
    j:=j - 1; o:=o.push (<-elem' b j); cb:=cb+1; ca:=0
    if j == 1 then return fb o i j
    if cb>=mg then break
  rule "list.sort.gallop"
  mg:=mg+1
  for _ in [0:tt] do
   if mg > 1 then mg:=mg - 1
   setMG mg
   let some q <-gal false (<-elem' b (j - 1)) a 0 i (i - 1) | return dn o i j
   let k:=i - q
   ca:=k
   if k > 0 then
    o:=o++(a.extract q i).reverse; i:=q
    if i == 0 then return dn o i j
   j:=j - 1; o:=o.push (<-elem' b j)
   if j == 1 then return fb o i j
   let some q <-gal true (<-elem' a (i - 1)) b 0 j (j - 1) | return dn o i j
   let k:=j - q
   cb:=k
   if k > 0 then
    o:=o++(b.extract q j).reverse; j:=q
    if j == 1 then return fb o i j
    if j == 0 then return dn o i j
   i:=i - 1; o:=o.push (<-elem' a i)
   if i == 0 then return dn o i j
   if ca<7 && cb<7 then break
  mg:=mg+1
  setMG mg
 unsupported "internal:list.sort.merge-bound"):=rfl
section
variable {O:Orc} {b:Ab} {xs ys os:Array Nat} {i j k:Nat}
structure Hw (O:Orc) (xs ys os:Array Nat) (i j:Nat):Prop where
 pm:((xs.toList.take i++ys.toList.take j)++os.toList.reverse).Perm (xs.toList++ys.toList)
 sa:(xs.toList.take i++os.toList.reverse).Pairwise (Ah O.lt)
 sb:(ys.toList.take j++os.toList.reverse).Pairwise (Ah O.lt)
 ti:i<=xs.size
 tj:j<=ys.size
theorem gA {xs:Array Nat} {i:Nat} (h0:0<i) (h:i<=xs.size):xs.toList.take i=xs.toList.take (i - 1)++[xs.getD (i - 1) 0]:=by
 obtain ⟨c,rfl⟩:∃ c,i=c+1:=⟨i - 1,by lia⟩
 have h':c<xs.toList.length:=by simp; lia
 rw [BQ h',DH]
 congr 2
 simp [AF,show c<xs.size by lia]
theorem uG (xs:Array Nat) (i:Nat):(xs.extract 0 i).toList=xs.toList.take i:=by
 rw [B0,Bh]; simp
theorem Hw.done (L:Hw O xs ys os i j) (h:i=0):jX O xs ys (xs.extract 0 i++ys.extract 0 j++os.reverse):=by
 subst h
 have e:(xs.extract 0 0++ys.extract 0 j++os.reverse).toList=ys.toList.take j++os.toList.reverse:=by rw [A3,A3,uG,uG]; simp
 have pm:=L.pm
 rw [EB,Cz] at pm
 exact ⟨by rw [e]; exact pm,by rw [e]; exact L.sb⟩
theorem Hw.done2 (L:Hw O xs ys os i j) (h:j=0):jX O xs ys (xs.extract 0 i++ys.extract 0 j++os.reverse):=by
 subst h
 have e:(xs.extract 0 i++ys.extract 0 0++os.reverse).toList=xs.toList.take i++os.toList.reverse:=by rw [A3,A3,uG,uG]; simp
 have pm:=L.pm
 rw [EB,B8] at pm
 exact ⟨by rw [e]; exact pm,by rw [e]; exact L.sa⟩
theorem Hw.first (T:Two O xs ys) (L:Hw O xs ys os i j) (h:j=1) (h0:O.lt (ys.getD 0 0) (xs.getD 0 0)=true):jX O xs ys (ys.extract 0 j++xs.extract 0 i++os.reverse):=by
 subst h
 have e:(ys.extract 0 1++xs.extract 0 i++os.reverse).toList=(ys.toList.take 1++xs.toList.take i)++os.toList.reverse:=by rw [A3,A3,uG,uG]; simp
 have hd:ys.toList.take 1=[ys.getD 0 0]:=by rw [gA (by lia) L.tj]; simp
 refine ⟨by rw [e]; exact (BV.append_right _).trans L.pm,?_⟩
 obtain ⟨s1,s2,s3⟩:=An.mp L.sa
 obtain ⟨t1,t2,t3⟩:=An.mp L.sb
 rw [e,hd]
 rw [hd] at t3
 refine An.mpr ⟨?_,s2,λ a ha c hc=>?_⟩
 ·refine BA.mpr ⟨λ c hc=>?_,s1⟩
  have hc':c∈xs.toList:=CM hc
  have hx:=T.x1
  have ex:xs.toList=xs.getD 0 0::xs.toList.drop 1:=by have:=fo (xs:=xs) (i:=0) hx; simpa using this
  have sx:=T.sx
  rw [ex] at hc' sx
  rcases Al.mp hc' with rfl | hc'
  ·exact Ah.of_lt T.H h0
  ·exact (Ah.of_lt T.H h0).trans T.H ((BA.mp sx).1 c hc')
 ·rcases AO.mp ha with ha | ha
  ·exact t3 a ha c hc
  ·exact s3 a ha c hc
theorem Hw.stepA (T:Two O xs ys) (L:Hw O xs ys os i j) (hi:0<i) (hj:0<j) (h:O.lt (ys.getD (j - 1) 0) (xs.getD (i - 1) 0)=true):Hw O xs ys (os.push (xs.getD (i - 1) 0)) (i - 1) j:=by
 have e:(os.push (xs.getD (i - 1) 0)).toList.reverse=xs.getD (i - 1) 0::os.toList.reverse:=by simp
 have ti:=L.ti; have tj:=L.tj
 have hx:=gA hi L.ti
 have pm:=L.pm; have sa:=L.sa; have sb:=L.sb
 rw [hx] at pm sa
 have sa':(xs.toList.take (i - 1)++(xs.getD (i - 1) 0::os.toList.reverse)).Pairwise (Ah O.lt):=by simpa using sa
 obtain ⟨s1,s2,s3⟩:=An.mp sa'
 obtain ⟨t1,t2,t3⟩:=An.mp sb
 refine ⟨?_,by rw [e]; exact sa',?_,by lia,L.tj⟩
 ·rw [e]
  refine FY ?_ pm
  have:((xs.toList.take (i - 1)++[xs.getD (i - 1) 0])++ys.toList.take j++os.toList.reverse)=xs.toList.take (i - 1)++(xs.getD (i - 1) 0::(ys.toList.take j++os.toList.reverse)):=by simp
  rw [this]
  have e2:(xs.toList.take (i - 1)++ys.toList.take j)++(xs.getD (i - 1) 0::os.toList.reverse)=xs.toList.take (i - 1)++(ys.toList.take j++(xs.getD (i - 1) 0::os.toList.reverse)):=by simp
  rw [e2]
  exact EA _ Dg
 ·rw [e]
  have hy:=gA hj L.tj
  refine An.mpr ⟨t1,s2,λ a ha c hc=>?_⟩
  rcases Al.mp hc with rfl | hc
  ·rw [hy] at ha t1
   rcases AO.mp ha with ha | ha
   ·exact ((An.mp t1).2.2 a ha _ (AJ.mpr rfl)).trans T.H (Ah.of_lt T.H h)
   ·rw [AJ.mp ha]; exact Ah.of_lt T.H h
  ·exact t3 a ha c hc
theorem Hw.stepB (T:Two O xs ys) (L:Hw O xs ys os i j) (hi:0<i) (hj:0<j) (h:O.lt (ys.getD (j - 1) 0) (xs.getD (i - 1) 0)=false):Hw O xs ys (os.push (ys.getD (j - 1) 0)) i (j - 1):=by
 have e:(os.push (ys.getD (j - 1) 0)).toList.reverse=ys.getD (j - 1) 0::os.toList.reverse:=by simp
 have ti:=L.ti; have tj:=L.tj
 have hy:=gA hj L.tj
 have pm:=L.pm; have sa:=L.sa; have sb:=L.sb
 rw [hy] at pm sb
 have sb':(ys.toList.take (j - 1)++(ys.getD (j - 1) 0::os.toList.reverse)).Pairwise (Ah O.lt):=by simpa using sb
 obtain ⟨s1,s2,s3⟩:=An.mp sa
 obtain ⟨t1,t2,t3⟩:=An.mp sb'
 refine ⟨?_,?_,by rw [e]; exact sb',L.ti,by lia⟩
 ·rw [e]
  have e2:(xs.toList.take i++ys.toList.take (j - 1))++(ys.getD (j - 1) 0::os.toList.reverse)=(xs.toList.take i++(ys.toList.take (j - 1)++[ys.getD (j - 1) 0]))++os.toList.reverse:=by simp
  rw [e2]; exact pm
 ·rw [e]
  have hx:=gA hi L.ti
  have h0:Ah O.lt (xs.getD (i - 1) 0) (ys.getD (j - 1) 0):=T.ah (jt (by lia)) (jt (by lia)) h
  refine An.mpr ⟨s1,t2,λ a ha c hc=>?_⟩
  rcases Al.mp hc with rfl | hc
  ·rw [hx] at ha s1
   rcases AO.mp ha with ha | ha
   ·exact ((An.mp s1).2.2 a ha _ (AJ.mpr rfl)).trans T.H h0
   ·rw [AJ.mp ha]; exact h0
  ·exact s3 a ha c hc
theorem kH {os xs:Array Nat} {K k:Nat} (h:K+k<xs.size):os.push (xs.getD (K+k) 0)++(xs.extract K (K+k)).reverse=os++(xs.extract K (K+(k+1))).reverse:=by
 apply BP.mp
 have e:xs.getD (K+k) 0=xs[K+k]:=by simp [AF,h]
 rw [e]
 have hl:k<(xs.toList.drop K).length:=by simp; lia
 simp only [C8,A3,Array.toList_reverse,B0,A0]
 rw [Bh,Bh,show K+k - K=k by lia,show K+(k+1) - K=k+1 by lia,BQ hl,List.reverse_append]
 simp
theorem Hw.manyA (T:Two O xs ys) (hj:0<j) {K:Nat}:∀ (k:Nat) (os:Array Nat),Hw O xs ys os (K+k) j->(∀ d,K<=d->d<K+k->O.lt (ys.getD (j - 1) 0) (xs.getD d 0)=true)->Hw O xs ys (os++(xs.extract K (K+k)).reverse) K j
 | 0,os,L,_=>by
  have e:os++(xs.extract K (K+0)).reverse=os:=by apply BP.mp; simp
  rw [e]; exact L
 | k+1,os,L,h=>by
  have ti:=L.ti
  have L':=L.stepA T (by lia) hj (h _ (by lia) (by lia))
  rw [show K+(k+1) - 1=K+k by lia] at L'
  have:=Hw.manyA T hj k _ L' λ d h1 h2=>h d h1 (by lia)
  rw [kH (by lia)] at this
  exact this
theorem Hw.manyB (T:Two O xs ys) (hi:0<i) {K:Nat}:∀ (k:Nat) (os:Array Nat),Hw O xs ys os i (K+k)->(∀ d,K<=d->d<K+k->O.lt (ys.getD d 0) (xs.getD (i - 1) 0)=false)->Hw O xs ys (os++(ys.extract K (K+k)).reverse) i K
 | 0,os,L,_=>by
  have e:os++(ys.extract K (K+0)).reverse=os:=by apply BP.mp; simp
  rw [e]; exact L
 | k+1,os,L,h=>by
  have tj:=L.tj
  have L':=L.stepB T hi (by lia) (h _ (by lia) (by lia))
  rw [show K+(k+1) - 1=K+k by lia] at L'
  have:=Hw.manyB T hi k _ L' λ d h1 h2=>h d h1 (by lia)
  rw [kH (by lia)] at this
  exact this
theorem Hw.manyA' (T:Two O xs ys) (L:Hw O xs ys os i j) (hj:0<j) {K:Nat} (hK:K<=i) (h:∀ d,K<=d->d<i->O.lt (ys.getD (j - 1) 0) (xs.getD d 0)=true):Hw O xs ys (os++(xs.extract K i).reverse) K j:=by
 obtain ⟨k,rfl⟩:∃ k,i=K+k:=⟨i - K,by lia⟩
 exact Hw.manyA T hj k os L h
theorem Hw.manyB' (T:Two O xs ys) (L:Hw O xs ys os i j) (hi:0<i) {K:Nat} (hK:K<=j) (h:∀ d,K<=d->d<j->O.lt (ys.getD d 0) (xs.getD (i - 1) 0)=false):Hw O xs ys (os++(ys.extract K j).reverse) i K:=by
 obtain ⟨k,rfl⟩:∃ k,j=K+k:=⟨j - K,by lia⟩
 exact Hw.manyB T hi k os L h
theorem W.mHi {Q:Array Keyed->Ab->Prop} (T:Two O xs ys) (h0:O.lt (ys.getD 0 0) (xs.getD 0 0)=true) (hl:∀ y∈ys.toList,O.lt y (xs.getD (xs.size - 1) 0)=true)
  (h:∀ rs mg,jX O xs ys rs->Q (rs.map (kas_item O.it)) { b with mg:=mg }):W O (mHi (xs.map (kas_item O.it)) (ys.map (kas_item O.it))) Q b:=by
 have x1:=T.x1
 have y1:=T.y1
 have tk:∀ zs:Array Nat,zs.toList.take zs.size=zs.toList:=λ zs=>AR (by simp)
 have L0:Hw O xs ys #[] xs.size ys.size:=⟨by rw [tk,tk]; simp,by rw [tk]; simpa using T.sx,by rw [tk]; simpa using T.sy,Ai _,Ai _⟩
 have L1:=L0.stepA T x1 y1 (hl _ (jt (by lia)))
 have mpush:∀ (os:Array Nat) (x:Nat),(os.map (kas_item O.it)).push (kas_item O.it x)=(os.push x).map (kas_item O.it):=λ os x=>by rw [Gg]
 have mapp:∀ (os zs:Array Nat),os.map (kas_item O.it)++zs.map (kas_item O.it)=(os++zs).map (kas_item O.it):=λ os zs=>by rw [FG]
 have mext:∀ (zs:Array Nat) (i j:Nat),(zs.map (kas_item O.it)).extract i j=(zs.extract i j).map (kas_item O.it):=λ zs i j=>by rw [DW]
 have mrev:∀ (zs:Array Nat),(zs.map (kas_item O.it)).reverse=zs.reverse.map (kas_item O.it):=λ zs=>by rw [Array.map_reverse]
 rw [vZ]
 refine W.bind (W.rule ?_)
 simp only [DB,mext]
 refine W.bind (W.elem (by lia) ?_)
 have e1:#[kas_item O.it (xs.getD (xs.size - 1) 0)]=((#[]:Array Nat).push (xs.getD (xs.size - 1) 0)).map (kas_item O.it):=by simp
 rw [e1]
 by_cases c1:(xs.size - 1 == 0)=true
 ·rw [if_pos c1]
  simp only [mapp,mrev]
  exact W.pure (h _ b.mg (L1.done (by simpa using c1)))
 rw [if_neg c1]
 by_cases c2:(ys.size == 1)=true
 ·rw [if_pos c2]
  simp only [mapp,mrev]
  exact W.pure (h _ b.mg (L1.first T (by simpa using c2) h0))
 rw [if_neg c2]
 refine W.bind (W.get ?_)
 have KA:∀ i j,i<=xs.size->∃ K,K<=i/\(∀ d,d<K->bey O false (ys.getD j 0) xs 0 d=true)/\∀ d,K<=d->d<i->bey O false (ys.getD j 0) xs 0 d=false:=λ i j hi=>ig _ λ c d h1 h2 h3=>T.monoA h1 (by lia) h3
 have KB:∀ i j,j<=ys.size->∃ K,K<=j/\(∀ d,d<K->bey O true (xs.getD i 0) ys 0 d=true)/\∀ d,K<=d->d<j->bey O true (xs.getD i 0) ys 0 d=false:=λ i j hj=>ig _ λ c d h1 h2 h3=>T.monoB h1 (by lia) h3
 have c1:1<xs.size:=by (have:¬ xs.size - 1=0:=(by simpa using c1)); lia
 have c2:1<ys.size:=by (have:¬ ys.size=1:=(by simpa using c2)); lia
 refine W.bind (W.range (D:=λ c b1=>b1.p=b.p/\b1.pd=b.pd/\∃ rs:Array Nat,c.1=some (rs.map (kas_item O.it))/\jX O xs ys rs) (λ k c b1=>b1.p=b.p/\b1.pd=b.pd/\c.1=none/\∃ os:Array Nat,c.2.2.2.1=os.map (kas_item O.it)/\Hw O xs ys os c.2.1 c.2.2.1/\0<c.2.1/\1<c.2.2.1/\c.2.1+c.2.2.1+1<=k) ⟨rfl,rfl,rfl,_,rfl,L1,by show 0<xs.size - 1; lia,c2,by show xs.size - 1+ys.size+1<=xs.size+ys.size - 0; lia⟩ ?_ ?_ |>.mono λ c b1 hc=>?_)
 rotate_left
 ·rintro ⟨r,i,j,o,g⟩ b1 ⟨f1,f2,_,os,_,L,hi,hj,hk⟩
  dsimp only at hi hj hk
  exact absurd hk (by lia)
 ·obtain ⟨r,i,j,o,g⟩:=c
  obtain ⟨f1,f2,rs,e,hm⟩:=hc
  dsimp only at e ⊢
  subst e
  have:=h rs b1.mg hm
  obtain ⟨p1,d1,m1⟩:=b1
  have f1:p1=b.p:=f1
  have f2:d1=b.pd:=f2
  subst f1 f2
  exact W.pure this
 rintro x k ⟨r,i0,j0,o,g0⟩ b1 ⟨f1,f2,e,os0,eo,L,hi0,hj0,hk⟩
 dsimp only at e eo hi0 hj0 hk L ⊢
 subst e eo
 have tI:=L.ti; have tJ:=L.tj
 refine W.bind (W.range (D:=λ c b1=>b1.p=b.p/\b1.pd=b.pd/\((∃ rs:Array Nat,c.1=some (rs.map (kas_item O.it))/\jX O xs ys rs)\/(c.1=none/\∃ os:Array Nat,c.2.2.2.1=os.map (kas_item O.it)/\Hw O xs ys os c.2.1 c.2.2.1/\0<c.2.1/\1<c.2.2.1/\c.2.1+c.2.2.1+1<=i0+j0))) (λ k c b1=>b1.p=b.p/\b1.pd=b.pd/\c.1=none/\∃ os:Array Nat,c.2.2.2.1=os.map (kas_item O.it)/\Hw O xs ys os c.2.1 c.2.2.1/\0<c.2.1/\1<c.2.2.1/\c.2.1+c.2.2.1+(xs.size+ys.size)<=i0+j0+k/\c.2.1+c.2.2.1<=i0+j0) ⟨f1,f2,rfl,_,rfl,L,hi0,hj0,by show i0+j0+(xs.size+ys.size)<=i0+j0+(xs.size+ys.size - 0)/\i0+j0<=i0+j0; lia⟩ ?_ ?_ |>.mono λ c b1 hc=>?_)
 ·rintro x k ⟨r,i,j,o,ca,cb⟩ b1 ⟨f1,f2,e,os,eo,L,hi,hj,hk1,hk2⟩
  dsimp only at e eo hi hj hk1 hk2 L ⊢
  subst e eo
  have ti:=L.ti; have tj:=L.tj
  refine W.bind (W.elem (by lia) (W.bind (W.elem (by lia) (W.bind (W.lt (T.ny _ (by lia)) (T.nx _ (by lia)) ?_)))))
  cases e:O.lt (ys.getD (j - 1) 0) (xs.getD (i - 1) 0) with
  | true=>
   have L':=L.stepA T hi (by lia) e
   simp only [if_true]
   refine W.bind (W.elem (by lia) ?_)
   simp only [mpush,mapp,mrev]
   by_cases q:(i - 1 == 0)=true
   ·rw [if_pos q]
    exact W.pure ⟨f1,f2,.inl ⟨_,rfl,L'.done (by simpa using q)⟩⟩
   ·rw [if_neg q]
    have q':¬ i - 1=0:=by simpa using q
    refine W.ite (λ _=>?_) (λ _=>?_)
    ·exact W.pure ⟨f1,f2,.inr ⟨rfl,_,rfl,L',by show 0<i - 1; lia,hj,by show i - 1+j+1<=i0+j0; lia⟩⟩
    ·exact W.pure ⟨f1,f2,rfl,_,rfl,L',by show 0<i - 1; lia,hj,by show i - 1+j+(xs.size+ys.size)<=i0+j0+k/\i - 1+j<=i0+j0; lia⟩
  | false=>
   have L':=L.stepB T hi (by lia) e
   simp only [Aq,if_false]
   refine W.bind (W.elem (by lia) ?_)
   simp only [mpush,mapp,mrev]
   by_cases q:(j - 1 == 1)=true
   ·rw [if_pos q]
    exact W.pure ⟨f1,f2,.inl ⟨_,rfl,L'.first T (by simpa using q) h0⟩⟩
   ·rw [if_neg q]
    have q':¬ j - 1=1:=by simpa using q
    refine W.ite (λ _=>?_) (λ _=>?_)
    ·exact W.pure ⟨f1,f2,.inr ⟨rfl,_,rfl,L',hi,by show 1<j - 1; lia,by show i+(j - 1)+1<=i0+j0; lia⟩⟩
    ·exact W.pure ⟨f1,f2,rfl,_,rfl,L',hi,by show 1<j - 1; lia,by show i+(j - 1)+(xs.size+ys.size)<=i0+j0+k/\i+(j - 1)<=i0+j0; lia⟩
 ·rintro ⟨r,i,j,o,ca,cb⟩ b1 ⟨f1,f2,_,os,_,L,hi,hj,hk1,hk2⟩
  dsimp only at hi hj hk1 hk2
  exact absurd hk1 (by lia)
 obtain ⟨r,i1,j1,o,ca,cb⟩:=c
 obtain ⟨f1,f2,hc⟩:=hc
 dsimp only at hc ⊢
 rcases hc with ⟨rs,e,hm⟩ | ⟨e,os1,eo,L,hi1,hj1,hk1⟩
 ·subst e
  exact W.pure ⟨f1,f2,rs,rfl,hm⟩
 subst e eo
 dsimp only
 refine W.bind (W.rule ?_)
 refine W.bind (W.range (D:=λ c b1=>b1.p=b.p/\b1.pd=b.pd/\((∃ rs:Array Nat,c.1=some (rs.map (kas_item O.it))/\jX O xs ys rs)\/(c.1=none/\∃ os:Array Nat,c.2.2.2.1=os.map (kas_item O.it)/\Hw O xs ys os c.2.1 c.2.2.1/\0<c.2.1/\1<c.2.2.1/\c.2.1+c.2.2.1<=i1+j1))) (λ k c b1=>b1.p=b.p/\b1.pd=b.pd/\c.1=none/\∃ os:Array Nat,c.2.2.2.1=os.map (kas_item O.it)/\Hw O xs ys os c.2.1 c.2.2.1/\0<c.2.1/\1<c.2.2.1/\c.2.1+c.2.2.1+(xs.size+ys.size)<=i1+j1+k/\c.2.1+c.2.2.1<=i1+j1) ⟨f1,f2,rfl,_,rfl,L,hi1,hj1,by show i1+j1+(xs.size+ys.size)<=i1+j1+(xs.size+ys.size - 0)/\i1+j1<=i1+j1; lia⟩ ?_ ?_ |>.mono λ c b1 hc=>?_)
 ·rintro x k ⟨r,i,j,o,g,ca,cb⟩ b1 ⟨f1,f2,e,os,eo,L,hi,hj,hk1,hk2⟩
  dsimp only at e eo hi hj hk1 hk2 L ⊢
  subst e eo
  have ti:=L.ti; have tj:=L.tj
  obtain ⟨K,hK,hK1,hK2⟩:=KA i (j - 1) ti
  have LK:=L.manyA' T (by lia) hK λ d h1 h2=>by have:=hK2 d h1 h2; simpa [bey] using this
  by_cases hg:g > 1
  ·rw [if_pos hg]
   refine W.bind (W.setMG ?_)
   refine W.bind (W.elem (by lia) (W.bind (W.gal (K:=K) (T.ny _ (by lia)) T.nx (by lia) (by lia) hK hK1 hK2 ?_)))
   dsimp only
   by_cases z:i - K > 0
   ·rw [if_pos z]
    simp only [mapp,mrev]
    by_cases q:(K == 0)=true
    ·rw [if_pos q]
     exact W.pure ⟨f1,f2,.inl ⟨_,rfl,LK.done (by simpa using q)⟩⟩
    rw [if_neg q]
    have q':¬ K=0:=by simpa using q
    have L2:=LK.stepB T (by lia) (by lia) (by have:=hK1 (K - 1) (by lia); simpa [bey] using this)
    have ti2:=L2.ti; have tj2:=L2.tj
    refine W.bind (W.elem (by lia) ?_)
    simp only [mpush,mapp,mrev]
    by_cases q2:(j - 1 == 1)=true
    ·rw [if_pos q2]
     exact W.pure ⟨f1,f2,.inl ⟨_,rfl,L2.first T (by simpa using q2) h0⟩⟩
    rw [if_neg q2]
    have q2':¬ j - 1=1:=by simpa using q2
    obtain ⟨K',hK',hB1,hB2⟩:=KB (K - 1) (j - 1) (by lia)
    have LB:=L2.manyB' T (by lia) hK' λ d h1 h2=>by have:=hB2 d h1 h2; simpa [bey] using this
    refine W.bind (W.elem (by lia) (W.bind (W.gal (K:=K') (T.nx _ (by lia)) T.ny (by lia) (by lia) hK' hB1 hB2 ?_)))
    dsimp only
    by_cases z':j - 1 - K' > 0
    ·rw [if_pos z']
     try simp only [mapp,mrev]
     by_cases q4:(K' == 1)=true
     ·rw [if_pos q4]
      exact W.pure ⟨f1,f2,.inl ⟨_,rfl,LB.first T (by simpa using q4) h0⟩⟩
     rw [if_neg q4]
     have q4':¬ K'=1:=by simpa using q4
     by_cases q5:(K' == 0)=true
     ·rw [if_pos q5]
      exact W.pure ⟨f1,f2,.inl ⟨_,rfl,LB.done2 (by simpa using q5)⟩⟩
     rw [if_neg q5]
     have q5':¬ K'=0:=by simpa using q5
     have L3:=LB.stepA T (by lia) (by lia) (by have:=hB1 (K' - 1) (by lia); simpa [bey] using this)
     refine W.bind (W.elem (by lia) ?_)
     simp only [mpush,mapp,mrev]
     by_cases q3:(K - 1 == 0)=true
     ·rw [if_pos q3]
      exact W.pure ⟨f1,f2,.inl ⟨_,rfl,L3.done (by simpa using q3)⟩⟩
     ·rw [if_neg q3]
      have q3':¬ K - 1=0:=by simpa using q3
      refine W.ite (λ _=>?_) (λ _=>?_)
      ·exact W.pure ⟨f1,f2,.inr ⟨rfl,_,rfl,L3,by show 0<K - 1; lia,by show 1<K'; lia,by show K - 1+(K')<=i1+j1; lia⟩⟩
      ·exact W.pure ⟨f1,f2,rfl,_,rfl,L3,by show 0<K - 1; lia,by show 1<K'; lia,by show K - 1+(K')+(xs.size+ys.size)<=i1+j1+k/\K - 1+(K')<=i1+j1; lia⟩
    ·rw [if_neg z']
     have L3:=L2.stepA T (by lia) (by lia) (by have:=hB1 (j - 1 - 1) (by lia); simpa [bey] using this)
     refine W.bind (W.elem (by lia) ?_)
     simp only [mpush,mapp,mrev]
     by_cases q3:(K - 1 == 0)=true
     ·rw [if_pos q3]
      exact W.pure ⟨f1,f2,.inl ⟨_,rfl,L3.done (by simpa using q3)⟩⟩
     ·rw [if_neg q3]
      have q3':¬ K - 1=0:=by simpa using q3
      refine W.ite (λ _=>?_) (λ _=>?_)
      ·exact W.pure ⟨f1,f2,.inr ⟨rfl,_,rfl,L3,by show 0<K - 1; lia,by show 1<j - 1; lia,by show K - 1+(j - 1)<=i1+j1; lia⟩⟩
      ·exact W.pure ⟨f1,f2,rfl,_,rfl,L3,by show 0<K - 1; lia,by show 1<j - 1; lia,by show K - 1+(j - 1)+(xs.size+ys.size)<=i1+j1+k/\K - 1+(j - 1)<=i1+j1; lia⟩
   ·rw [if_neg z]
    have L2:=L.stepB T (by lia) (by lia) (by have:=hK1 (i - 1) (by lia); simpa [bey] using this)
    have ti2:=L2.ti; have tj2:=L2.tj
    refine W.bind (W.elem (by lia) ?_)
    simp only [mpush,mapp,mrev]
    by_cases q2:(j - 1 == 1)=true
    ·rw [if_pos q2]
     exact W.pure ⟨f1,f2,.inl ⟨_,rfl,L2.first T (by simpa using q2) h0⟩⟩
    rw [if_neg q2]
    have q2':¬ j - 1=1:=by simpa using q2
    obtain ⟨K',hK',hB1,hB2⟩:=KB (i - 1) (j - 1) (by lia)
    have LB:=L2.manyB' T (by lia) hK' λ d h1 h2=>by have:=hB2 d h1 h2; simpa [bey] using this
    refine W.bind (W.elem (by lia) (W.bind (W.gal (K:=K') (T.nx _ (by lia)) T.ny (by lia) (by lia) hK' hB1 hB2 ?_)))
    dsimp only
    by_cases z':j - 1 - K' > 0
    ·rw [if_pos z']
     try simp only [mapp,mrev]
     by_cases q4:(K' == 1)=true
     ·rw [if_pos q4]
      exact W.pure ⟨f1,f2,.inl ⟨_,rfl,LB.first T (by simpa using q4) h0⟩⟩
     rw [if_neg q4]
     have q4':¬ K'=1:=by simpa using q4
     by_cases q5:(K' == 0)=true
     ·rw [if_pos q5]
      exact W.pure ⟨f1,f2,.inl ⟨_,rfl,LB.done2 (by simpa using q5)⟩⟩
     rw [if_neg q5]
     have q5':¬ K'=0:=by simpa using q5
     have L3:=LB.stepA T (by lia) (by lia) (by have:=hB1 (K' - 1) (by lia); simpa [bey] using this)
     refine W.bind (W.elem (by lia) ?_)
     simp only [mpush,mapp,mrev]
     by_cases q3:(i - 1 == 0)=true
     ·rw [if_pos q3]
      exact W.pure ⟨f1,f2,.inl ⟨_,rfl,L3.done (by simpa using q3)⟩⟩
     ·rw [if_neg q3]
      have q3':¬ i - 1=0:=by simpa using q3
      refine W.ite (λ _=>?_) (λ _=>?_)
      ·exact W.pure ⟨f1,f2,.inr ⟨rfl,_,rfl,L3,by show 0<i - 1; lia,by show 1<K'; lia,by show i - 1+(K')<=i1+j1; lia⟩⟩
      ·exact W.pure ⟨f1,f2,rfl,_,rfl,L3,by show 0<i - 1; lia,by show 1<K'; lia,by show i - 1+(K')+(xs.size+ys.size)<=i1+j1+k/\i - 1+(K')<=i1+j1; lia⟩
    ·rw [if_neg z']
     have L3:=L2.stepA T (by lia) (by lia) (by have:=hB1 (j - 1 - 1) (by lia); simpa [bey] using this)
     refine W.bind (W.elem (by lia) ?_)
     simp only [mpush,mapp,mrev]
     by_cases q3:(i - 1 == 0)=true
     ·rw [if_pos q3]
      exact W.pure ⟨f1,f2,.inl ⟨_,rfl,L3.done (by simpa using q3)⟩⟩
     ·rw [if_neg q3]
      have q3':¬ i - 1=0:=by simpa using q3
      refine W.ite (λ _=>?_) (λ _=>?_)
      ·exact W.pure ⟨f1,f2,.inr ⟨rfl,_,rfl,L3,by show 0<i - 1; lia,by show 1<j - 1; lia,by show i - 1+(j - 1)<=i1+j1; lia⟩⟩
      ·exact W.pure ⟨f1,f2,rfl,_,rfl,L3,by show 0<i - 1; lia,by show 1<j - 1; lia,by show i - 1+(j - 1)+(xs.size+ys.size)<=i1+j1+k/\i - 1+(j - 1)<=i1+j1; lia⟩
  ·rw [if_neg hg]
   refine W.bind (W.setMG ?_)
   refine W.bind (W.elem (by lia) (W.bind (W.gal (K:=K) (T.ny _ (by lia)) T.nx (by lia) (by lia) hK hK1 hK2 ?_)))
   dsimp only
   by_cases z:i - K > 0
   ·rw [if_pos z]
    simp only [mapp,mrev]
    by_cases q:(K == 0)=true
    ·rw [if_pos q]
     exact W.pure ⟨f1,f2,.inl ⟨_,rfl,LK.done (by simpa using q)⟩⟩
    rw [if_neg q]
    have q':¬ K=0:=by simpa using q
    have L2:=LK.stepB T (by lia) (by lia) (by have:=hK1 (K - 1) (by lia); simpa [bey] using this)
    have ti2:=L2.ti; have tj2:=L2.tj
    refine W.bind (W.elem (by lia) ?_)
    simp only [mpush,mapp,mrev]
    by_cases q2:(j - 1 == 1)=true
    ·rw [if_pos q2]
     exact W.pure ⟨f1,f2,.inl ⟨_,rfl,L2.first T (by simpa using q2) h0⟩⟩
    rw [if_neg q2]
    have q2':¬ j - 1=1:=by simpa using q2
    obtain ⟨K',hK',hB1,hB2⟩:=KB (K - 1) (j - 1) (by lia)
    have LB:=L2.manyB' T (by lia) hK' λ d h1 h2=>by have:=hB2 d h1 h2; simpa [bey] using this
    refine W.bind (W.elem (by lia) (W.bind (W.gal (K:=K') (T.nx _ (by lia)) T.ny (by lia) (by lia) hK' hB1 hB2 ?_)))
    dsimp only
    by_cases z':j - 1 - K' > 0
    ·rw [if_pos z']
     try simp only [mapp,mrev]
     by_cases q4:(K' == 1)=true
     ·rw [if_pos q4]
      exact W.pure ⟨f1,f2,.inl ⟨_,rfl,LB.first T (by simpa using q4) h0⟩⟩
     rw [if_neg q4]
     have q4':¬ K'=1:=by simpa using q4
     by_cases q5:(K' == 0)=true
     ·rw [if_pos q5]
      exact W.pure ⟨f1,f2,.inl ⟨_,rfl,LB.done2 (by simpa using q5)⟩⟩
     rw [if_neg q5]
     have q5':¬ K'=0:=by simpa using q5
     have L3:=LB.stepA T (by lia) (by lia) (by have:=hB1 (K' - 1) (by lia); simpa [bey] using this)
     refine W.bind (W.elem (by lia) ?_)
     simp only [mpush,mapp,mrev]
     by_cases q3:(K - 1 == 0)=true
     ·rw [if_pos q3]
      exact W.pure ⟨f1,f2,.inl ⟨_,rfl,L3.done (by simpa using q3)⟩⟩
     ·rw [if_neg q3]
      have q3':¬ K - 1=0:=by simpa using q3
      refine W.ite (λ _=>?_) (λ _=>?_)
      ·exact W.pure ⟨f1,f2,.inr ⟨rfl,_,rfl,L3,by show 0<K - 1; lia,by show 1<K'; lia,by show K - 1+(K')<=i1+j1; lia⟩⟩
      ·exact W.pure ⟨f1,f2,rfl,_,rfl,L3,by show 0<K - 1; lia,by show 1<K'; lia,by show K - 1+(K')+(xs.size+ys.size)<=i1+j1+k/\K - 1+(K')<=i1+j1; lia⟩
    ·rw [if_neg z']
     have L3:=L2.stepA T (by lia) (by lia) (by have:=hB1 (j - 1 - 1) (by lia); simpa [bey] using this)
     refine W.bind (W.elem (by lia) ?_)
     simp only [mpush,mapp,mrev]
     by_cases q3:(K - 1 == 0)=true
     ·rw [if_pos q3]
      exact W.pure ⟨f1,f2,.inl ⟨_,rfl,L3.done (by simpa using q3)⟩⟩
     ·rw [if_neg q3]
      have q3':¬ K - 1=0:=by simpa using q3
      refine W.ite (λ _=>?_) (λ _=>?_)
      ·exact W.pure ⟨f1,f2,.inr ⟨rfl,_,rfl,L3,by show 0<K - 1; lia,by show 1<j - 1; lia,by show K - 1+(j - 1)<=i1+j1; lia⟩⟩
      ·exact W.pure ⟨f1,f2,rfl,_,rfl,L3,by show 0<K - 1; lia,by show 1<j - 1; lia,by show K - 1+(j - 1)+(xs.size+ys.size)<=i1+j1+k/\K - 1+(j - 1)<=i1+j1; lia⟩
   ·rw [if_neg z]
    have L2:=L.stepB T (by lia) (by lia) (by have:=hK1 (i - 1) (by lia); simpa [bey] using this)
    have ti2:=L2.ti; have tj2:=L2.tj
    refine W.bind (W.elem (by lia) ?_)
    simp only [mpush,mapp,mrev]
    by_cases q2:(j - 1 == 1)=true
    ·rw [if_pos q2]
     exact W.pure ⟨f1,f2,.inl ⟨_,rfl,L2.first T (by simpa using q2) h0⟩⟩
    rw [if_neg q2]
    have q2':¬ j - 1=1:=by simpa using q2
    obtain ⟨K',hK',hB1,hB2⟩:=KB (i - 1) (j - 1) (by lia)
    have LB:=L2.manyB' T (by lia) hK' λ d h1 h2=>by have:=hB2 d h1 h2; simpa [bey] using this
    refine W.bind (W.elem (by lia) (W.bind (W.gal (K:=K') (T.nx _ (by lia)) T.ny (by lia) (by lia) hK' hB1 hB2 ?_)))
    dsimp only
    by_cases z':j - 1 - K' > 0
    ·rw [if_pos z']
     try simp only [mapp,mrev]
     by_cases q4:(K' == 1)=true
     ·rw [if_pos q4]
      exact W.pure ⟨f1,f2,.inl ⟨_,rfl,LB.first T (by simpa using q4) h0⟩⟩
     rw [if_neg q4]
     have q4':¬ K'=1:=by simpa using q4
     by_cases q5:(K' == 0)=true
     ·rw [if_pos q5]
      exact W.pure ⟨f1,f2,.inl ⟨_,rfl,LB.done2 (by simpa using q5)⟩⟩
     rw [if_neg q5]
     have q5':¬ K'=0:=by simpa using q5
     have L3:=LB.stepA T (by lia) (by lia) (by have:=hB1 (K' - 1) (by lia); simpa [bey] using this)
     refine W.bind (W.elem (by lia) ?_)
     simp only [mpush,mapp,mrev]
     by_cases q3:(i - 1 == 0)=true
     ·rw [if_pos q3]
      exact W.pure ⟨f1,f2,.inl ⟨_,rfl,L3.done (by simpa using q3)⟩⟩
     ·rw [if_neg q3]
      have q3':¬ i - 1=0:=by simpa using q3
      refine W.ite (λ _=>?_) (λ _=>?_)
      ·exact W.pure ⟨f1,f2,.inr ⟨rfl,_,rfl,L3,by show 0<i - 1; lia,by show 1<K'; lia,by show i - 1+(K')<=i1+j1; lia⟩⟩
      ·exact W.pure ⟨f1,f2,rfl,_,rfl,L3,by show 0<i - 1; lia,by show 1<K'; lia,by show i - 1+(K')+(xs.size+ys.size)<=i1+j1+k/\i - 1+(K')<=i1+j1; lia⟩
    ·rw [if_neg z']
     have L3:=L2.stepA T (by lia) (by lia) (by have:=hB1 (j - 1 - 1) (by lia); simpa [bey] using this)
     refine W.bind (W.elem (by lia) ?_)
     simp only [mpush,mapp,mrev]
     by_cases q3:(i - 1 == 0)=true
     ·rw [if_pos q3]
      exact W.pure ⟨f1,f2,.inl ⟨_,rfl,L3.done (by simpa using q3)⟩⟩
     ·rw [if_neg q3]
      have q3':¬ i - 1=0:=by simpa using q3
      refine W.ite (λ _=>?_) (λ _=>?_)
      ·exact W.pure ⟨f1,f2,.inr ⟨rfl,_,rfl,L3,by show 0<i - 1; lia,by show 1<j - 1; lia,by show i - 1+(j - 1)<=i1+j1; lia⟩⟩
      ·exact W.pure ⟨f1,f2,rfl,_,rfl,L3,by show 0<i - 1; lia,by show 1<j - 1; lia,by show i - 1+(j - 1)+(xs.size+ys.size)<=i1+j1+k/\i - 1+(j - 1)<=i1+j1; lia⟩
 ·rintro ⟨r,i,j,o,g,ca,cb⟩ b1 ⟨f1,f2,_,os,_,L,hi,hj,hk1,hk2⟩
  dsimp only at hi hj hk1 hk2
  exact absurd hk1 (by lia)
 obtain ⟨r,i2,j2,o,g2,ca,cb⟩:=c
 obtain ⟨f1,f2,hc⟩:=hc
 dsimp only at hc ⊢
 rcases hc with ⟨rs,e,hm⟩ | ⟨e,os2,eo,L,hi2,hj2,hk2⟩
 ·subst e
  exact W.pure ⟨f1,f2,rs,rfl,hm⟩
 subst e eo
 dsimp only
 exact W.bind (W.setMG (W.pure ⟨f1,f2,rfl,_,rfl,L,hi2,hj2,by show i2+j2+1<=k; lia⟩))
end
theorem v0 (n:Nat):mergeAt' n=(do
 let st <-get
 let (some (u,nu,pw),some (v,nv,_)):=((pendingOf st)[n]?,(pendingOf st)[n+1]?) | unsupported "internal:list.sort.pending"
 set (setPending st (((pendingOf st).setIfInBounds n (u,nu+nv,pw)).eraseIdxIfInBounds (n+1)))
 let some k <-gal false (<-elem' (arrOf st) v) (arrOf st) u nu 0 | return false
 let (u,nu):=(u+k,nu - k)
 if nu == 0 then return true
 let some nv <-gal true (<-elem' (arrOf st) (u+nu - 1)) (arrOf st) v nv (nv - 1) | return false
 if nv == 0 then return true
 let X:=(arrOf st).extract u v
 let Y:=(arrOf st).extract v (v+nv)
 let R <-if nu<=nv then mLo X Y else mHi X Y
 modify λ st=>setArr st (R.toList.zipIdx.foldl (λ z (q,j)=>z.setIfInBounds (u+j) q) (arrOf st))
 return (failedOf (<-get)).isNone):=rfl
theorem kI {α:Type}:∀ (l:List α) (k s:Nat) (z:Array α),s+k+l.length<=z.size->
  ((l.zipIdx k).foldl (λ z x=>z.setIfInBounds (s+x.2) x.1) z).toList=z.toList.take (s+k)++l++z.toList.drop (s+k+l.length)
 | [],k,s,z,h=>by simp
 | x::l,k,s,z,h=>by
  rw [List.zipIdx_cons,FO]
  have ih:=kI l (k+1) s (z.setIfInBounds (s+k) x) (by rw [Array.size_setIfInBounds]; simp at h; lia)
  rw [ih]
  have hz:s+k<z.toList.length:=by simp at h ⊢; lia
  rw [Array.toList_setIfInBounds]
  have e1:(z.toList.set (s+k) x).take (s+(k+1))=z.toList.take (s+k)++[x]:=by
   rw [show s+(k+1)=s+k+1 by lia,BQ (by simpa using hz)]
   rw [List.getElem_set_self,List.take_set_of_le (Ai _)]
  have e2:(z.toList.set (s+k) x).drop (s+(k+1)+l.length)=z.toList.drop (s+(k+1)+l.length):=by
   rw [List.drop_set,if_pos (by lia)]
  rw [e1,e2]
  simp only [A0,List.cons_append,Cz,Az]
  rw [show s+(k+1)+l.length=s+k+(l.length+1) by lia]
section
variable {O:Orc} {b:Ab}
theorem W.set {st:SortSt} {Q:PUnit->Ab->Prop} (b':Ab) (e:st=b'.st O) (h:Q ⟨⟩ b'):W O (HK st:SM PUnit) Q b:=λ s hs=>by
 unfold kasC
 show wpAny _ _ ((StateT.set st:SM PUnit).run (b.st O)) _ _ s
 exact wpAny_pure ⟨hs,b',e,h⟩
theorem gd {p:Array Nat} {pre l:List Nat} (h:p.toList=pre++l) (d:Nat):p.getD (pre.length+d) 0=l.getD d 0:=by
 have:p.getD (pre.length+d) 0=p.toList.getD (pre.length+d) 0:=by
  by_cases q:pre.length+d<p.size
  ·simp [AF,q]
  ·have q':¬ pre.length+d<p.toList.length:=by simpa using q
   simp [AF,q,Go,Dl (FC q')]
 rw [this,h]
 simp [Go,AQ]
theorem gl {l:List Nat} {d:Nat} (h:d<l.length):l.getD d 0=l[d]:=by simp [Go,h]
structure Nb (O:Orc) (p:Array Nat) (pre R1 R2 suf:List Nat):Prop where
 H:Lt O.lt
 e:p.toList=pre++(R1++(R2++suf))
 nn:∀ k,k<p.size->p.getD k 0<O.N
 s1:R1.Pairwise (Ah O.lt)
 s2:R2.Pairwise (Ah O.lt)
 xy:∀ x∈R1,∀ y∈R2,x<y
 l1:0<R1.length
 l2:0<R2.length
theorem W.mAt {p:Array Nat} {pd:Array (Nat×Nat×Nat)} {mg pw pw2:Nat} {pre R1 R2 suf:List Nat} {Q:Bool->Ab->Prop} (T:Nb O p pre R1 R2 suf) (d1:pd[n]? = some (pre.length,R1.length,pw)) (d2:pd[n+1]? = some (pre.length+R1.length,R2.length,pw2))
  (h:∀ (M:List Nat) (p':Array Nat) mg',M.Perm (R1++R2)->M.Pairwise (Ah O.lt)->p'.toList=pre++(M++suf)->Q true ⟨p',(pd.setIfInBounds n (pre.length,R1.length+R2.length,pw)).eraseIdxIfInBounds (n+1),mg'⟩):W O (mergeAt' n) Q ⟨p,pd,mg⟩:=by
 have l1:=T.l1
 have l2:=T.l2
 have hz:p.size=pre.length+(R1.length+(R2.length+suf.length)):=by rw [<-Bs,T.e]; simp
 have g1:∀ d,d<R1.length->p.getD (pre.length+d) 0=R1.getD d 0:=λ d hd=>by
  rw [gd T.e,gl (by simp; lia),gl hd,C2 hd]
 have e2:p.toList=(pre++R1)++(R2++suf):=by rw [T.e]; simp
 have g2:∀ d,d<R2.length->p.getD (pre.length+R1.length+d) 0=R2.getD d 0:=λ d hd=>by
  have:=gd e2 d
  rw [Ay] at this
  rw [this,gl (by simp; lia),gl hd,C2 hd]
 have m1:∀ d,d<R1.length->R1.getD d 0∈R1:=λ d hd=>by rw [gl hd]; exact AU hd
 have m2:∀ d,d<R2.length->R2.getD d 0∈R2:=λ d hd=>by rw [gl hd]; exact AU hd
 have a1:∀ c d,c<d->d<R1.length->Ah O.lt (R1.getD c 0) (R1.getD d 0):=λ c d hc hd=>by
  rw [gl hd,gl (by lia)]; exact Bb.mp T.s1 c d (by lia) hd hc
 have a2:∀ c d,c<d->d<R2.length->Ah O.lt (R2.getD c 0) (R2.getD d 0):=λ c d hc hd=>by
  rw [gl hd,gl (by lia)]; exact Bb.mp T.s2 c d (by lia) hd hc
 rw [v0]
 refine W.bind (W.get ?_)
 have hp:pendingOf (Ab.st O ⟨p,pd,mg⟩)=pd:=rfl
 have ha:arrOf (Ab.st O ⟨p,pd,mg⟩)=p.map (kas_item O.it):=rfl
 simp only [hp,ha,d1,d2]
 refine W.bind (W.set ⟨p,(pd.setIfInBounds n (pre.length,R1.length+R2.length,pw)).eraseIdxIfInBounds (n+1),mg⟩ rfl ?_)
 generalize (pd.setIfInBounds n (pre.length,R1.length+R2.length,pw)).eraseIdxIfInBounds (n+1)=pd' at h ⊢
 -- the first of the second run,looked for in the first
 obtain ⟨K,hK,k1,k2⟩:=ig (P:=λ d=>bey O false (p.getD (pre.length+R1.length) 0) p pre.length d) R1.length (λ c d h1 h2 h3=>by
  simp only [bey,Aq,if_false,DV] at h3 ⊢
  rcases BU h1 with rfl | h1
  ·exact h3
  ·rw [g1 d h2] at h3; rw [g1 c (by lia)]
   exact T.H.tr _ _ _ h3 (a1 c d h1 h2).1)
 have y0:p.getD (pre.length+R1.length) 0=R2.getD 0 0:=g2 0 l2
 have k1':∀ d,d<K->O.lt (R2.getD 0 0) (R1.getD d 0)=false:=λ d hd=>by
  have:=k1 d hd
  simp only [bey,Aq,if_false,DV] at this
  rwa [y0,g1 d (by lia)] at this
 have k2':∀ d,K<=d->d<R1.length->O.lt (R2.getD 0 0) (R1.getD d 0)=true:=λ d h1 h2=>by
  have:=k2 d h1 h2
  simp only [bey,Aq,if_false,Bool.not_eq_false'] at this
  rwa [y0,g1 d (by lia)] at this
 refine W.bind (W.elem (by lia) (W.bind (W.gal (K:=K) (T.nn _ (by lia)) T.nn (by lia) l1 hK k1 k2 ?_)))
 -- what stays ahead stands ahead of all of the second run
 have F1:∀ a∈R1.take K,∀ y∈R2,Ah O.lt a y:=λ a ha y hy=>by
  obtain ⟨d,hd,rfl⟩:=AS ha
  have hd':d<K:=by rw [A8] at hd; lia
  have hd1:d<R1.length:=by lia
  have e:(R1.take K)[d]=R1.getD d 0:=by rw [gl hd1]; simp
  rw [e]
  have b0:Ah O.lt (R1.getD d 0) (R2.getD 0 0):=⟨k1' d hd',λ _=>T.xy _ (m1 d hd1) _ (m2 0 l2)⟩
  obtain ⟨c,hc,rfl⟩:=AS hy
  rw [<-gl hc]
  rcases Bz c with rfl | hc0
  ·exact b0
  ·exact b0.trans T.H (a2 0 c hc0 hc)
 dsimp only
 by_cases q:(R1.length - K == 0)=true
 ·rw [if_pos q]
  have q':R1.length - K=0:=by simpa using q
  have eK:R1.take K=R1:=AR (by lia)
  rw [eK] at F1
  exact W.pure (h (R1++R2) p mg (B5 _) (An.mpr ⟨T.s1,T.s2,λ a ha c hc=>F1 a ha c hc⟩) (by rw [T.e]; simp))
 rw [if_neg q]
 have q':¬ R1.length - K=0:=by simpa using q
 have ex:pre.length+K+(R1.length - K) - 1=pre.length+(R1.length - 1):=by lia
 rw [ex]
 obtain ⟨K',hK',j1,j2⟩:=ig (P:=λ d=>bey O true (p.getD (pre.length+(R1.length - 1)) 0) p (pre.length+R1.length) d) R2.length (λ c d h1 h2 h3=>by
  simp only [bey,if_true] at h3 ⊢
  rcases BU h1 with rfl | h1
  ·exact h3
  ·rw [g2 d h2] at h3; rw [g2 c (by lia)]
   exact iE T.H h3 (a2 c d h1 h2).1)
 have x9:=g1 (R1.length - 1) (by lia)
 have j1':∀ d,d<K'->O.lt (R2.getD d 0) (R1.getD (R1.length - 1) 0)=true:=λ d hd=>by
  have:=j1 d hd
  simp only [bey,if_true] at this
  rwa [x9,g2 d (by lia)] at this
 have j2':∀ d,K'<=d->d<R2.length->O.lt (R2.getD d 0) (R1.getD (R1.length - 1) 0)=false:=λ d h1 h2=>by
  have:=j2 d h1 h2
  simp only [bey,if_true] at this
  rwa [x9,g2 d (by lia)] at this
 refine W.bind (W.elem (by lia) (W.bind (W.gal (K:=K') (T.nn _ (by lia)) T.nn (by lia) (by lia) hK' j1 j2 ?_)))
 dsimp only
 have kp:0<K':=by
  rcases Bz K' with z | z
  ·have:=j2' 0 (by lia) l2
   rw [k2' _ (by lia) (by lia)] at this; cases this
  ·exact z
 rw [if_neg (by simp; lia)]
 have F2:∀ x∈R1,∀ y∈R2.drop K',Ah O.lt x y:=λ x hx y hy=>by
  obtain ⟨d,hd,rfl⟩:=AS hy
  have hd':K'+d<R2.length:=by rw [Bc] at hd; lia
  have e:(R2.drop K')[d]=R2.getD (K'+d) 0:=by rw [gl hd']; simp
  rw [e]
  have b0:Ah O.lt (R1.getD (R1.length - 1) 0) (R2.getD (K'+d) 0):=⟨j2' _ (by lia) hd',λ _=>T.xy _ (m1 _ (by lia)) _ (m2 _ hd')⟩
  obtain ⟨c,hc,rfl⟩:=AS hx
  rw [<-gl hc]
  rcases BU (show c<=R1.length - 1 by lia) with rfl | hc0
  ·exact b0
  ·exact (a1 c _ hc0 (by lia)).trans T.H b0
 have mext:∀ (zs:Array Nat) (i j:Nat),(zs.map (kas_item O.it)).extract i j=(zs.extract i j).map (kas_item O.it):=λ zs i j=>by rw [DW]
 simp only [mext]
 have ex1:(p.extract (pre.length+K) (pre.length+R1.length)).toList=R1.drop K:=by
  rw [B0,Bh,T.e,show pre.length+R1.length - (pre.length+K)=R1.length - K by lia,FH,Er (by lia),Cz,show pre.length+K - pre.length=K by lia,Dv hK,CC (by simp)]
  exact AR (by simp)
 have ex2:(p.extract (pre.length+R1.length) (pre.length+R1.length+K')).toList=R2.take K':=by
  rw [B0,Bh,e2,show pre.length+R1.length+K' - (pre.length+R1.length)=K' by lia,FH,Er (by simp),Cz,Ay,Ds,CH,CC hK']
 have z1:(p.extract (pre.length+K) (pre.length+R1.length)).size=R1.length - K:=by rw [<-Bs,ex1,Bc]
 have z2:(p.extract (pre.length+R1.length) (pre.length+R1.length+K')).size=K':=by rw [<-Bs,ex2,A8]; lia
 generalize p.extract (pre.length+K) (pre.length+R1.length)=xs at ex1 z1 ⊢
 generalize p.extract (pre.length+R1.length) (pre.length+R1.length+K')=ys at ex2 z2 ⊢
 have gx:∀ d,d<xs.size->xs.getD d 0=R1.getD (K+d) 0:=λ d hd=>by
  have:=gd (p:=xs) (pre:=[]) (l:=R1.drop K) (by simpa using ex1) d
  simp only [A9,CI] at this
  rw [this,gl (by rw [Bc]; lia),gl (by lia),C9]
 have gy:∀ d,d<ys.size->ys.getD d 0=R2.getD d 0:=λ d hd=>by
  have:=gd (p:=ys) (pre:=[]) (l:=R2.take K') (by simpa using ex2) d
  simp only [A9,CI] at this
  rw [this,gl (by rw [A8]; lia),gl (by lia),DX]
 have TT:Two O xs ys:=by
  refine ⟨T.H,λ d hd=>?_,λ d hd=>?_,?_,?_,λ x hx y hy=>?_,by lia,by lia⟩
  ·rw [gx d hd,<-g1 (K+d) (by lia)]; exact T.nn _ (by lia)
  ·rw [gy d hd,<-g2 d (by lia)]; exact T.nn _ (by lia)
  ·rw [ex1]; exact T.s1.sublist (Fk _ _)
  ·rw [ex2]; exact T.s2.sublist (DT _ _)
  ·rw [ex1] at hx; rw [ex2] at hy
   exact T.xy x (Ck hx) y (CM hy)
 have h0:O.lt (ys.getD 0 0) (xs.getD 0 0)=true:=by
  rw [gx 0 (by lia),gy 0 (by lia)]; exact k2' _ (by lia) (by lia)
 have hl:∀ y∈ys.toList,O.lt y (xs.getD (xs.size - 1) 0)=true:=λ y hy=>by
  rw [gx _ (by lia),show K+(xs.size - 1)=R1.length - 1 by lia]
  rw [ex2] at hy
  obtain ⟨d,hd,rfl⟩:=AS hy
  rw [A8] at hd
  have e:(R2.take K')[d]=R2.getD d 0:=by rw [gl (by lia)]; simp
  rw [e]; exact j1' d (by lia)
 have fin:∀ (rs:Array Nat) (mg':Nat),jX O xs ys rs->W O (do
   _root_.modify λ st=>setArr st ((rs.map (kas_item O.it)).toList.zipIdx.foldl (λ z x=>z.setIfInBounds (pre.length+K+x.2) x.1) (arrOf st))
   let st <-Gf
   Gn (failedOf st).isNone) Q ⟨p,pd',mg'⟩:=by
  intro rs mg' ⟨hm,hs⟩
  rw [ex1,ex2] at hm
  have hrl:rs.toList.length=R1.length - K+K':=by rw [hm.length_eq,Ay,Bc,A8]; lia
  have hfs:=kI (rs.map (kas_item O.it)).toList 0 (pre.length+K) (p.map (kas_item O.it)) (by rw [Dh,Af,hrl,DB]; lia)
  have el:(((rs.map (kas_item O.it)).toList.zipIdx.foldl (λ z x=>z.setIfInBounds (pre.length+K+x.2) x.1) (p.map (kas_item O.it))))=(Au (pre++((R1.take K++rs.toList++R2.drop K')++suf))).map (kas_item O.it):=by
   apply BP.mp
   rw [hfs]
   rw [Dh,Dh,Dh,Af,hrl,<-EO,<-EQ,<-AN,<-AN]
   congr 1
   have t1:p.toList.take (pre.length+K+0)=pre++R1.take K:=by
    rw [T.e,Nat.add_zero,List.take_append,AR (by lia),show pre.length+K - pre.length=K by lia,CC hK]
   have t2:p.toList.drop (pre.length+K+0+(R1.length - K+K'))=R2.drop K'++suf:=by
    rw [e2,show pre.length+K+0+(R1.length - K+K')=(pre++R1).length+K' by rw [Ay]; lia,List.drop_length_add_append,Dv hK']
   rw [t1,t2]
   simp
  refine W.bind (W.modify ⟨Au (pre++((R1.take K++rs.toList++R2.drop K')++suf)),pd',mg'⟩ ?_ ?_)
  ·show BI O.κ _ pd' mg' none=BI O.κ _ pd' mg' none
   have:arrOf (Ab.st O ⟨p,pd',mg'⟩)=p.map (kas_item O.it):=rfl
   rw [this,el]
  refine W.bind (W.get (W.pure ?_))
  refine h (R1.take K++rs.toList++R2.drop K') _ mg' ?_ ?_ rfl
  ·have:(R1++R2)=R1.take K++(R1.drop K++R2.take K')++R2.drop K':=by
    rw [<-A0,Bf,A0,Bf]
   rw [this]
   exact (hm.append_left _).append_right _
  ·have mem:∀ r∈rs.toList,r∈R1.drop K\/r∈R2.take K':=λ r hr=>AO.mp (hm.mem_iff.mp hr)
   have p1:(R1.take K++R1.drop K).Pairwise (Ah O.lt):=by rw [Bf]; exact T.s1
   have p2:(R2.take K'++R2.drop K').Pairwise (Ah O.lt):=by rw [Bf]; exact T.s2
   refine An.mpr ⟨An.mpr ⟨T.s1.sublist (DT _ _),hs,λ a ha r hr=>?_⟩,T.s2.sublist (Fk _ _),λ a ha y hy=>?_⟩
   ·rcases mem r hr with z | z
    ·exact (An.mp p1).2.2 a ha r z
    ·exact F1 a ha r (CM z)
   ·rcases AO.mp ha with z | z
    ·exact F1 a z y (Ck hy)
    ·rcases mem a z with z | z
     ·exact F2 a (Ck z) y hy
     ·exact (An.mp p2).2.2 a z y hy
 by_cases c:R1.length - K<=K'
 ·rw [if_pos c]
  exact W.bind (W.mLo TT h0 hl λ rs mg' hm=>fin rs mg' hm)
 ·rw [if_neg c]
  exact W.bind (W.mHi TT h0 hl λ rs mg' hm=>fin rs mg' hm)
end
noncomputable def ev (lt:Nat->Nat->Bool) {α:Type}:KasT α->α
 | .ret a=>a
 | .ask i j k=>ev lt (k (lt i j))
theorem dQ (lt:Nat->Nat->Bool) {α β:Type} (f:α->KasT β):∀ t:KasT α,ev lt (t.bind f)=ev lt (f (ev lt t))
 | .ret _=>rfl
 | .ask i j k=>dQ lt f (k (lt i j))
theorem Sat.ev {N:Nat} {lt:Nat->Nat->Bool} {α:Type} {R:α->Prop}:∀ t:KasT α,Sat N lt t R->R (L2.ev lt t)
 | .ret _,h=>h
 | .ask i j k,h=>Sat.ev (k (lt i j)) h.2.2
noncomputable def sh (lt:Nat->Nat->Bool) (lo:Nat):Nat->Nat->Bool:=λ i j=>lt (i+lo) (j+lo)
theorem Lt.sh {lt:Nat->Nat->Bool} (H:Lt lt) (lo:Nat):Lt (sh lt lo):=⟨λ i j h=>H.asym _ _ h,λ i j k h h'=>H.tr _ _ _ h h'⟩
section
variable {O:Orc} {b:Ab} {lo n nrem:Nat} {pre:List Nat} {pd:Array (Nat×Nat×Nat)} {mg:Nat} {P:Array Nat}
theorem W.rangeV {γ:Type} {x y:Nat} {c:γ} {f:Nat->γ->SM (ForInStep γ)} {D:γ->Ab->Prop} (J:Nat->γ->Ab->Prop) (hxy:x<=y) (h0:J x c b)
  (hs:∀ k c b,x<=k->k<y->J k c b->W O (f k c) (λ r b'=>match r with | .done c'=>D c' b' | .yield c'=>J (k+1) c' b') b) (hd:∀ c b,J y c b->D c b):W O (Ep [x:y] c f) D b:=λ s hi=>by
 refine kasC_range ?_
 have go:∀ (m k:Nat) (c:γ) (b:Ab),x<=k->k+m=y->J k c b->W O (Ep (AM k m) c f) D b:=by
  intro m
  induction m with
  | zero=>
   intro k c b _ e h s hi
   have:k=y:=by lia
   subst this
   exact kasC_nil ⟨hi,b,rfl,hd c b h⟩
  | succ m ih=>
   intro k c b hk e h s hi
   rw [List.range'_succ]
   refine kasC_cons (wpAny_mono (hs k c b hk (by lia) h s hi) (λ r s' ⟨i,b',e',q⟩=>?_) λ _ _ z=>z)
   obtain ⟨r,st⟩:=r
   have e':st=b'.st O:=e'
   subst e'
   cases r with
   | done c'=>exact ⟨i,b',rfl,q⟩
   | yield c'=>exact ih (k+1) c' b' (by lia) (by lia) q s' i
 exact go (y - x) x c b (Ai _) (by lia) h0 s hi
noncomputable def abP (lo:Nat) (pre:List Nat) (pd:Array (Nat×Nat×Nat)) (mg:Nat) (P:Array Nat):Ab:=⟨Au (pre++P.toList.map (· + lo)),pd,mg⟩
structure Fm (O:Orc) (lo nrem:Nat) (pre:List Nat) (P:Array Nat):Prop where
 pl:pre.length=lo
 pn:∀ x∈pre,x<O.N
 top:lo+nrem<=O.N
 perm:P.Perm (Au (As nrem))
theorem Fm.get (F:Fm O lo nrem pre P) (hi:i<nrem):(abP lo pre pd mg P).p.getD (lo+i) 0=P.getD i 0+lo:=by
 have hz:=(eV F.perm).sz
 have e:(abP lo pre pd mg P).p.toList=pre++P.toList.map (· + lo):=rfl
 have:=gd e i
 rw [F.pl] at this
 rw [this,gl (by simp; lia)]
 simp [AF,hz,hi]
theorem Fm.size (F:Fm O lo nrem pre P):(abP lo pre pd mg P).p.size=lo+nrem:=by
 have hz:=(eV F.perm).sz
 show (Au (pre++P.toList.map (· + lo))).size=_
 simp [F.pl,hz]
theorem Fm.all (F:Fm O lo nrem pre P):∀ k,k<(abP lo pre pd mg P).p.size->(abP lo pre pd mg P).p.getD k 0<O.N:=λ k hk=>by
 rw [F.size] at hk
 rcases Bk k lo with h | h
 ·have e:(abP lo pre pd mg P).p.getD k 0=pre.getD k 0:=by
   show (Au (pre++P.toList.map (· + lo))).getD k 0=_
   have hk':k<pre.length:=by rw [F.pl]; exact h
   have hz:=(eV F.perm).sz
   have:k<(Au (pre++P.toList.map (· + lo))).size:=by simp [F.pl,hz]; lia
   rw [gl hk']
   simp [AF,F.pl,hz,hk,C2 hk']
  rw [e,gl (by rw [F.pl]; exact h)]
  exact F.pn _ (AU _)
 ·obtain ⟨d,rfl⟩:∃ d,k=lo+d:=⟨k - lo,by lia⟩
  rw [F.get (by lia)]
  have:=(eV F.perm).bd d (by lia)
  have:=F.top
  lia
theorem Fm.of (F:Fm O lo nrem pre P) {P':Array Nat} (h:P'.Perm (Au (As nrem))):Fm O lo nrem pre P':=⟨F.pl,F.pn,F.top,h⟩
theorem W.ltF {Q:Option Bool->Ab->Prop} (F:Fm O lo nrem pre P) (hi:i<nrem) (hj:j<nrem) (h:Q (some (sh O.lt lo (P.getD i 0) (P.getD j 0))) (abP lo pre pd mg P)):W O (ltAt' (lo+i) (lo+j)) Q (abP lo pre pd mg P):=by
 refine W.ltAt (by rw [F.size]; lia) (by rw [F.size]; lia) F.all ?_
 rw [F.get hi,F.get hj]; exact h
theorem tG (xs:Array Nat) (k:Nat) (h:k<xs.size):xs[k]? = some (xs.getD k 0):=by simp [AF,h]
theorem W.revF {Q:Unit->Ab->Prop} (F:Fm O lo nrem pre P) (hj:j<=nrem) (h:Q () (abP lo pre pd mg (kas_rev P i j))):W O (reverseSlice' (lo+i) (lo+j)) Q (abP lo pre pd mg P):=by
 rw [reverseSlice'_eq]
 refine W.modify _ ?_ h
 show BI O.κ (mirror ((abP lo pre pd mg P).p.map (kas_item O.it)) (lo+i) (lo+j) (((lo+j) - (lo+i)) / 2)) pd mg none=BI O.κ ((abP lo pre pd mg (kas_rev P i j)).p.map (kas_item O.it)) pd mg none
 have e1:mirror ((abP lo pre pd mg P).p.map (kas_item O.it)) (lo+i) (lo+j) (((lo+j) - (lo+i)) / 2)=(mirror (abP lo pre pd mg P).p (lo+i) (lo+j) (((lo+j) - (lo+i)) / 2)).map (kas_item O.it):=kas_swaps_map (kas_item O.it) (λ k=>lo+i+k) (λ k=>lo+j - 1 - k) _ _
 rw [e1]
 have F':Fm O lo nrem pre (kas_rev P i j):=F.of (bg _ _ F.perm)
 have hz:=(eV F.perm).sz
 congr 2
 apply E8
 intro k
 rw [getElem?_mirror_all (by rw [F.size]; lia)]
 rcases Bk k lo with hk | hk
 ·rw [if_neg (by lia)]
  show (Au (pre++_))[k]? = (Au (pre++_))[k]?
  have hk':k<pre.length:=by rw [F.pl]; exact hk
  simp [AX hk']
 ·obtain ⟨d,rfl⟩:∃ d,k=lo+d:=⟨k - lo,by lia⟩
  rcases Bk d nrem with hd | hd
  ·rw [tG (abP lo pre pd mg (kas_rev P i j)).p (lo+d) (by rw [F'.size]; lia),F'.get hd,ce (by lia)]
   by_cases c:i<=d/\d<j
   ·rw [if_pos (by lia),if_pos c,show lo+i+(lo+j) - 1 - (lo+d)=lo+(i+j - 1 - d) by lia,tG _ _ (by rw [F.size]; lia),F.get (by lia)]
   ·rw [if_neg (by lia),if_neg c,tG _ _ (by rw [F.size]; lia),F.get hd]
  ·rw [if_neg (by lia),CB (by rw [F.size]; lia),CB (by rw [F'.size]; lia)]
theorem W.movF {l:Nat} {Q:Unit->Ab->Prop} (F:Fm O lo nrem pre P) (hk:k<nrem) (hl:l<=k) (h:Q () (abP lo pre pd mg (bubble P k (k - l)))):W O (moveDown' (lo+k) (lo+l)) Q (abP lo pre pd mg P):=by
 rw [moveDown'_eq]
 refine W.modify _ ?_ h
 show BI O.κ (bubble ((abP lo pre pd mg P).p.map (kas_item O.it)) (lo+k) (lo+k - (lo+l))) pd mg none=BI O.κ ((abP lo pre pd mg (bubble P k (k - l))).p.map (kas_item O.it)) pd mg none
 have e1:bubble ((abP lo pre pd mg P).p.map (kas_item O.it)) (lo+k) (lo+k - (lo+l))=(bubble (abP lo pre pd mg P).p (lo+k) (lo+k - (lo+l))).map (kas_item O.it):=kas_swaps_map (kas_item O.it) (λ i=>lo+k - i) (λ i=>lo+k - i - 1) _ _
 rw [e1]
 have F':Fm O lo nrem pre (bubble P k (k - l)):=F.of (iF _ _ F.perm)
 have hz:=(eV F.perm).sz
 congr 2
 apply E8
 intro x
 rw [getElem?_bubble (by rw [F.size]; lia) _ (by lia),show lo+k - (lo+k - (lo+l))=lo+l by lia]
 rcases Bk x lo with hx | hx
 ·rw [if_neg (by lia),if_neg (by lia)]
  show (Au (pre++_))[x]? = (Au (pre++_))[x]?
  have hx':x<pre.length:=by rw [F.pl]; exact hx
  simp [AX hx']
 ·obtain ⟨d,rfl⟩:∃ d,x=lo+d:=⟨x - lo,by lia⟩
  rcases Bk d nrem with hd | hd
  ·rw [tG (abP lo pre pd mg (bubble P k (k - l))).p (lo+d) (by rw [F'.size]; lia),F'.get hd,fP (by lia) hl]
   by_cases c:d=l
   ·rw [if_pos (by lia),if_pos c,tG _ _ (by rw [F.size]; lia),F.get hk]
   ·rw [if_neg (by lia),if_neg c]
    by_cases c2:l<d/\d<=k
    ·rw [if_pos (by lia),if_pos c2,show lo+d - 1=lo+(d - 1) by lia,tG _ _ (by rw [F.size]; lia),F.get (by lia)]
    ·rw [if_neg (by lia),if_neg c2,tG _ _ (by rw [F.size]; lia),F.get hd]
  ·rw [if_neg (by lia),if_neg (by lia),CB (by rw [F.size]; lia),CB (by rw [F'.size]; lia)]
theorem W.cnt {Q:Option Nat->Ab->Prop} (F:Fm O lo nrem pre P) (h1:1<=nrem) (h:Q (some (ev (sh O.lt lo) (kas_count nrem P)).1) (abP lo pre pd mg (ev (sh O.lt lo) (kas_count nrem P)).2)):W O (countRun' lo nrem) Q (abP lo pre pd mg P):=by
 rw [countRun'_eq]
 refine W.bind (W.range (D:=λ c b1=>b1=abP lo pre pd mg P/\c.1=none/\c.2=ev (sh O.lt lo) (kas_asc P (nrem - 1) 1)/\1<=c.2/\c.2<=nrem) (λ k c b1=>b1=abP lo pre pd mg P/\c.1=none/\1<=c.2/\c.2+k=nrem/\ev (sh O.lt lo) (kas_asc P k c.2)=ev (sh O.lt lo) (kas_asc P (nrem - 1) 1)) ⟨rfl,rfl,by show 1<=1; lia,by show 1+(nrem - 1)=nrem; lia,rfl⟩ ?_ ?_ |>.mono λ c b1 hc=>?_)
 ·rintro x k ⟨r,m⟩ b1 ⟨eb,er,q1,q2,q3⟩
  dsimp only at er q1 q2 q3 ⊢
  subst eb er
  rw [show lo+m - 1=lo+(m - 1) by lia]
  refine W.bind (W.ltF F (by lia) (by lia) ?_)
  have q3:ev (sh O.lt lo) (if sh O.lt lo (AF P m 0) (AF P (m - 1) 0)=true then KasT.ret m else kas_asc P k (m+1))=_:=q3
  cases e:sh O.lt lo (AF P m 0) (AF P (m - 1) 0) with
  | true=>
   rw [e,if_pos rfl] at q3
   simp only [if_true]
   exact W.pure ⟨rfl,rfl,q3,q1,by show m<=nrem; lia⟩
  | false=>
   rw [e,if_neg Ao] at q3
   simp only [Aq,if_false]
   exact W.pure ⟨rfl,rfl,by show 1<=m+1; lia,by show m+1+k=nrem; lia,q3⟩
 ·rintro ⟨r,m⟩ b1 ⟨eb,er,q1,q2,q3⟩
  dsimp only at er q1 q2 q3
  exact ⟨eb,er,q3,q1,by show m<=nrem; lia⟩
 obtain ⟨r,m⟩:=c
 obtain ⟨eb,er,em,m1,m2⟩:=hc
 dsimp only at er em m1 m2 ⊢
 subst eb er
 dsimp only
 have ec:ev (sh O.lt lo) (kas_count nrem P)=ev (sh O.lt lo) (if (m == nrem)=true then KasT.ret (m,P) else if m > 1 then KasT.ask (P.getD 0 0) (P.getD (m - 1) 0) λ c=>if c=true then KasT.ret (m,P) else kas_descPart m nrem (kas_rev P 0 m) else kas_descPart m nrem P):=by
  unfold kas_count
  rw [dQ,<-em]
 rw [ec] at h
 clear ec em
 by_cases q:(m == nrem)=true
 ·rw [if_pos q] at h ⊢
  exact W.pure h
 rw [if_neg q] at h ⊢
 have q':¬ m=nrem:=by simpa using q
 by_cases hm:m > 1
 ·rw [if_pos hm] at h ⊢
  rw [show lo+m - 1=lo+(m - 1) by lia]
  refine W.bind (W.ltF (i:=0) F (by lia) (by lia) ?_)
  have h:Q (some (ev (sh O.lt lo) (if sh O.lt lo (P.getD 0 0) (P.getD (m - 1) 0)=true then KasT.ret (m,P) else kas_descPart m nrem (kas_rev P 0 m))).1) (abP lo pre pd mg (ev (sh O.lt lo) (if sh O.lt lo (P.getD 0 0) (P.getD (m - 1) 0)=true then KasT.ret (m,P) else kas_descPart m nrem (kas_rev P 0 m))).2):=h
  cases e:sh O.lt lo (P.getD 0 0) (P.getD (m - 1) 0) with
  | true=>
   rw [e,if_pos rfl] at h
   simp only [if_true]
   exact W.pure h
  | false=>
   rw [e,if_neg Ao] at h
   simp only [Aq,if_false]
   refine W.bind (W.revF (i:=0) F (by lia) ?_)
   have F1:=F.of (bg 0 m F.perm)
   have ed:ev (sh O.lt lo) (kas_descPart m nrem (kas_rev P 0 m))=(λ r:Array Nat×Nat×Nat=>ev (sh O.lt lo) (if r.2.2 > 0 then kas_tail3 r.2.1 nrem (kas_rev r.1 (r.2.1 - (r.2.2+1)) r.2.1) else kas_tail3 r.2.1 nrem r.1)) (ev (sh O.lt lo) (kas_desc (nrem - (m+1)) (kas_rev P 0 m) (m+1) 0)):=by
    unfold kas_descPart
    rw [dQ]
   rw [ed] at h
   clear ed
   refine W.bind (W.rule ?_)
   refine W.bind (W.range (D:=λ c b1=>c.1=none/\∃ P',b1=abP lo pre pd mg P'/\Fm O lo nrem pre P'/\(P',c.2.1,c.2.2)=ev (sh O.lt lo) (kas_desc (nrem - (m+1)) (kas_rev P 0 m) (m+1) 0)/\c.2.2+1<=c.2.1/\c.2.1<=nrem) (λ k c b1=>c.1=none/\∃ P',b1=abP lo pre pd mg P'/\Fm O lo nrem pre P'/\ev (sh O.lt lo) (kas_desc k P' c.2.1 c.2.2)=ev (sh O.lt lo) (kas_desc (nrem - (m+1)) (kas_rev P 0 m) (m+1) 0)/\c.2.2+1<=c.2.1/\c.2.1+k=nrem) ⟨rfl,_,rfl,F1,rfl,by show 0+1<=m+1; lia,by show m+1+(nrem - (m+1))=nrem; lia⟩ ?_ ?_ |>.mono λ c b1 hc=>?_)
   ·rintro x k ⟨r,u,v⟩ b1 ⟨er,P',eb,F',q3,q1,q2⟩
    dsimp only at er q1 q2 q3 ⊢
    subst eb er
    rw [show lo+u - 1=lo+(u - 1) by lia,show lo+u - (v+1)=lo+(u - (v+1)) by lia]
    refine W.bind (W.ltF F' (by lia) (by lia) ?_)
    have q3:ev (sh O.lt lo) (if sh O.lt lo (P'.getD u 0) (P'.getD (u - 1) 0)=true then (if v > 0 then kas_desc k (kas_rev P' (u - (v+1)) u) (u+1) 0 else kas_desc k P' (u+1) 0) else KasT.ask (P'.getD (u - 1) 0) (P'.getD u 0) λ d=>if d=true then KasT.ret (P',u,v) else kas_desc k P' (u+1) (v+1))=_:=q3
    cases e:sh O.lt lo (P'.getD u 0) (P'.getD (u - 1) 0) with
    | true=>
     rw [e,if_pos rfl] at q3
     simp only [if_true]
     by_cases hv:v > 0
     ·rw [if_pos hv] at q3 ⊢
      exact W.bind (W.revF F' (by lia) (W.pure ⟨rfl,_,rfl,F'.of (bg _ _ F'.perm),q3,by show 0+1<=u+1; lia,by show u+1+k=nrem; lia⟩))
     ·rw [if_neg hv] at q3 ⊢
      exact W.pure ⟨rfl,_,rfl,F',q3,by show 0+1<=u+1; lia,by show u+1+k=nrem; lia⟩
    | false=>
     rw [e,if_neg Ao] at q3
     simp only [Aq,if_false]
     refine W.bind (W.ltF F' (by lia) (by lia) ?_)
     have q3:ev (sh O.lt lo) (if sh O.lt lo (P'.getD (u - 1) 0) (P'.getD u 0)=true then KasT.ret (P',u,v) else kas_desc k P' (u+1) (v+1))=_:=q3
     cases e2:sh O.lt lo (P'.getD (u - 1) 0) (P'.getD u 0) with
     | true=>
      rw [e2,if_pos rfl] at q3
      simp only [if_true]
      exact W.pure ⟨rfl,_,rfl,F',q3,q1,by show u<=nrem; lia⟩
     | false=>
      rw [e2,if_neg Ao] at q3
      simp only [Aq,if_false]
      exact W.pure ⟨rfl,_,rfl,F',q3,by show v+1+1<=u+1; lia,by show u+1+k=nrem; lia⟩
   ·rintro ⟨r,u,v⟩ b1 ⟨er,P',eb,F',q3,q1,q2⟩
    dsimp only at er q1 q2 q3
    exact ⟨er,P',eb,F',q3,q1,by show u<=nrem; lia⟩
   obtain ⟨r,u,v⟩:=c
   obtain ⟨er,P',eb,F',e9,q1,q2⟩:=hc
   dsimp only at er e9 q1 q2 ⊢
   subst eb er
   rw [<-e9] at h
   dsimp only at h ⊢
   rw [show lo+u - (v+1)=lo+(u - (v+1)) by lia]
   by_cases hv:v > 0
   ·rw [if_pos hv] at h ⊢
    refine W.bind (W.revF F' (by lia) ?_)
    have F3:=F'.of (bg (u - (v+1)) u F'.perm)
    generalize kas_rev P' (u - (v+1)) u=P3 at F3 h ⊢
    have e3:ev (sh O.lt lo) (kas_tail3 u nrem P3)=(ev (sh O.lt lo) (kas_asc (kas_rev P3 0 u) (nrem - u) u),kas_rev P3 0 u):=by
     unfold kas_tail3
     rw [dQ]; rfl
    rw [e3] at h
    have F4:=F3.of (bg 0 u F3.perm)
    refine W.bind (W.revF (i:=0) F3 (by lia) ?_)
    refine W.bind (W.range (D:=λ c b1=>b1=abP lo pre pd mg (kas_rev P3 0 u)/\c.1=none/\c.2=ev (sh O.lt lo) (kas_asc (kas_rev P3 0 u) (nrem - u) u)/\1<=c.2/\c.2<=nrem) (λ k c b1=>b1=abP lo pre pd mg (kas_rev P3 0 u)/\c.1=none/\1<=c.2/\c.2+k=nrem/\ev (sh O.lt lo) (kas_asc (kas_rev P3 0 u) k c.2)=ev (sh O.lt lo) (kas_asc (kas_rev P3 0 u) (nrem - u) u)) ⟨rfl,rfl,by show 1<=u; lia,by show u+(nrem - u)=nrem; lia,rfl⟩ ?_ ?_ |>.mono λ c b1 hc=>?_)
    ·rintro x k ⟨r,m⟩ b1 ⟨eb,er,q1,q2,q3⟩
     dsimp only at er q1 q2 q3 ⊢
     subst eb er
     rw [show lo+m - 1=lo+(m - 1) by lia]
     refine W.bind (W.ltF F4 (by lia) (by lia) ?_)
     have q3:ev (sh O.lt lo) (if sh O.lt lo (AF (kas_rev P3 0 u) m 0) (AF (kas_rev P3 0 u) (m - 1) 0)=true then KasT.ret m else kas_asc (kas_rev P3 0 u) k (m+1))=_:=q3
     cases e:sh O.lt lo (AF (kas_rev P3 0 u) m 0) (AF (kas_rev P3 0 u) (m - 1) 0) with
     | true=>
      rw [e,if_pos rfl] at q3
      simp only [if_true]
      exact W.pure ⟨rfl,rfl,q3,q1,by show m<=nrem; lia⟩
     | false=>
      rw [e,if_neg Ao] at q3
      simp only [Aq,if_false]
      exact W.pure ⟨rfl,rfl,by show 1<=m+1; lia,by show m+1+k=nrem; lia,q3⟩
    ·rintro ⟨r,m⟩ b1 ⟨eb,er,q1,q2,q3⟩
     dsimp only at er q1 q2 q3
     exact ⟨eb,er,q3,q1,by show m<=nrem; lia⟩
    obtain ⟨r,z⟩:=c
    obtain ⟨eb,er,em,z1,z2⟩:=hc
    dsimp only at er em z1 z2 ⊢
    subst eb er
    rw [<-em] at h
    exact W.pure h
   ·rw [if_neg hv] at h ⊢
    have F3:=F'
    generalize P'=P3 at F3 h ⊢
    have e3:ev (sh O.lt lo) (kas_tail3 u nrem P3)=(ev (sh O.lt lo) (kas_asc (kas_rev P3 0 u) (nrem - u) u),kas_rev P3 0 u):=by
     unfold kas_tail3
     rw [dQ]; rfl
    rw [e3] at h
    have F4:=F3.of (bg 0 u F3.perm)
    refine W.bind (W.revF (i:=0) F3 (by lia) ?_)
    refine W.bind (W.range (D:=λ c b1=>b1=abP lo pre pd mg (kas_rev P3 0 u)/\c.1=none/\c.2=ev (sh O.lt lo) (kas_asc (kas_rev P3 0 u) (nrem - u) u)/\1<=c.2/\c.2<=nrem) (λ k c b1=>b1=abP lo pre pd mg (kas_rev P3 0 u)/\c.1=none/\1<=c.2/\c.2+k=nrem/\ev (sh O.lt lo) (kas_asc (kas_rev P3 0 u) k c.2)=ev (sh O.lt lo) (kas_asc (kas_rev P3 0 u) (nrem - u) u)) ⟨rfl,rfl,by show 1<=u; lia,by show u+(nrem - u)=nrem; lia,rfl⟩ ?_ ?_ |>.mono λ c b1 hc=>?_)
    ·rintro x k ⟨r,m⟩ b1 ⟨eb,er,q1,q2,q3⟩
     dsimp only at er q1 q2 q3 ⊢
     subst eb er
     rw [show lo+m - 1=lo+(m - 1) by lia]
     refine W.bind (W.ltF F4 (by lia) (by lia) ?_)
     have q3:ev (sh O.lt lo) (if sh O.lt lo (AF (kas_rev P3 0 u) m 0) (AF (kas_rev P3 0 u) (m - 1) 0)=true then KasT.ret m else kas_asc (kas_rev P3 0 u) k (m+1))=_:=q3
     cases e:sh O.lt lo (AF (kas_rev P3 0 u) m 0) (AF (kas_rev P3 0 u) (m - 1) 0) with
     | true=>
      rw [e,if_pos rfl] at q3
      simp only [if_true]
      exact W.pure ⟨rfl,rfl,q3,q1,by show m<=nrem; lia⟩
     | false=>
      rw [e,if_neg Ao] at q3
      simp only [Aq,if_false]
      exact W.pure ⟨rfl,rfl,by show 1<=m+1; lia,by show m+1+k=nrem; lia,q3⟩
    ·rintro ⟨r,m⟩ b1 ⟨eb,er,q1,q2,q3⟩
     dsimp only at er q1 q2 q3
     exact ⟨eb,er,q3,q1,by show m<=nrem; lia⟩
    obtain ⟨r,z⟩:=c
    obtain ⟨eb,er,em,z1,z2⟩:=hc
    dsimp only at er em z1 z2 ⊢
    subst eb er
    rw [<-em] at h
    exact W.pure h
 ·rw [if_neg hm] at h ⊢
  have ed:ev (sh O.lt lo) (kas_descPart m nrem P)=(λ r:Array Nat×Nat×Nat=>ev (sh O.lt lo) (if r.2.2 > 0 then kas_tail3 r.2.1 nrem (kas_rev r.1 (r.2.1 - (r.2.2+1)) r.2.1) else kas_tail3 r.2.1 nrem r.1)) (ev (sh O.lt lo) (kas_desc (nrem - (m+1)) P (m+1) 0)):=by
   unfold kas_descPart
   rw [dQ]
  rw [ed] at h
  clear ed
  refine W.bind (W.rule ?_)
  refine W.bind (W.range (D:=λ c b1=>c.1=none/\∃ P',b1=abP lo pre pd mg P'/\Fm O lo nrem pre P'/\(P',c.2.1,c.2.2)=ev (sh O.lt lo) (kas_desc (nrem - (m+1)) P (m+1) 0)/\c.2.2+1<=c.2.1/\c.2.1<=nrem) (λ k c b1=>c.1=none/\∃ P',b1=abP lo pre pd mg P'/\Fm O lo nrem pre P'/\ev (sh O.lt lo) (kas_desc k P' c.2.1 c.2.2)=ev (sh O.lt lo) (kas_desc (nrem - (m+1)) P (m+1) 0)/\c.2.2+1<=c.2.1/\c.2.1+k=nrem) ⟨rfl,_,rfl,F,rfl,by show 0+1<=m+1; lia,by show m+1+(nrem - (m+1))=nrem; lia⟩ ?_ ?_ |>.mono λ c b1 hc=>?_)
  ·rintro x k ⟨r,u,v⟩ b1 ⟨er,P',eb,F',q3,q1,q2⟩
   dsimp only at er q1 q2 q3 ⊢
   subst eb er
   rw [show lo+u - 1=lo+(u - 1) by lia,show lo+u - (v+1)=lo+(u - (v+1)) by lia]
   refine W.bind (W.ltF F' (by lia) (by lia) ?_)
   have q3:ev (sh O.lt lo) (if sh O.lt lo (P'.getD u 0) (P'.getD (u - 1) 0)=true then (if v > 0 then kas_desc k (kas_rev P' (u - (v+1)) u) (u+1) 0 else kas_desc k P' (u+1) 0) else KasT.ask (P'.getD (u - 1) 0) (P'.getD u 0) λ d=>if d=true then KasT.ret (P',u,v) else kas_desc k P' (u+1) (v+1))=_:=q3
   cases e:sh O.lt lo (P'.getD u 0) (P'.getD (u - 1) 0) with
   | true=>
    rw [e,if_pos rfl] at q3
    simp only [if_true]
    by_cases hv:v > 0
    ·rw [if_pos hv] at q3 ⊢
     exact W.bind (W.revF F' (by lia) (W.pure ⟨rfl,_,rfl,F'.of (bg _ _ F'.perm),q3,by show 0+1<=u+1; lia,by show u+1+k=nrem; lia⟩))
    ·rw [if_neg hv] at q3 ⊢
     exact W.pure ⟨rfl,_,rfl,F',q3,by show 0+1<=u+1; lia,by show u+1+k=nrem; lia⟩
   | false=>
    rw [e,if_neg Ao] at q3
    simp only [Aq,if_false]
    refine W.bind (W.ltF F' (by lia) (by lia) ?_)
    have q3:ev (sh O.lt lo) (if sh O.lt lo (P'.getD (u - 1) 0) (P'.getD u 0)=true then KasT.ret (P',u,v) else kas_desc k P' (u+1) (v+1))=_:=q3
    cases e2:sh O.lt lo (P'.getD (u - 1) 0) (P'.getD u 0) with
    | true=>
     rw [e2,if_pos rfl] at q3
     simp only [if_true]
     exact W.pure ⟨rfl,_,rfl,F',q3,q1,by show u<=nrem; lia⟩
    | false=>
     rw [e2,if_neg Ao] at q3
     simp only [Aq,if_false]
     exact W.pure ⟨rfl,_,rfl,F',q3,by show v+1+1<=u+1; lia,by show u+1+k=nrem; lia⟩
  ·rintro ⟨r,u,v⟩ b1 ⟨er,P',eb,F',q3,q1,q2⟩
   dsimp only at er q1 q2 q3
   exact ⟨er,P',eb,F',q3,q1,by show u<=nrem; lia⟩
  obtain ⟨r,u,v⟩:=c
  obtain ⟨er,P',eb,F',e9,q1,q2⟩:=hc
  dsimp only at er e9 q1 q2 ⊢
  subst eb er
  rw [<-e9] at h
  dsimp only at h ⊢
  rw [show lo+u - (v+1)=lo+(u - (v+1)) by lia]
  by_cases hv:v > 0
  ·rw [if_pos hv] at h ⊢
   refine W.bind (W.revF F' (by lia) ?_)
   have F3:=F'.of (bg (u - (v+1)) u F'.perm)
   generalize kas_rev P' (u - (v+1)) u=P3 at F3 h ⊢
   have e3:ev (sh O.lt lo) (kas_tail3 u nrem P3)=(ev (sh O.lt lo) (kas_asc (kas_rev P3 0 u) (nrem - u) u),kas_rev P3 0 u):=by
    unfold kas_tail3
    rw [dQ]; rfl
   rw [e3] at h
   have F4:=F3.of (bg 0 u F3.perm)
   refine W.bind (W.revF (i:=0) F3 (by lia) ?_)
   refine W.bind (W.range (D:=λ c b1=>b1=abP lo pre pd mg (kas_rev P3 0 u)/\c.1=none/\c.2=ev (sh O.lt lo) (kas_asc (kas_rev P3 0 u) (nrem - u) u)/\1<=c.2/\c.2<=nrem) (λ k c b1=>b1=abP lo pre pd mg (kas_rev P3 0 u)/\c.1=none/\1<=c.2/\c.2+k=nrem/\ev (sh O.lt lo) (kas_asc (kas_rev P3 0 u) k c.2)=ev (sh O.lt lo) (kas_asc (kas_rev P3 0 u) (nrem - u) u)) ⟨rfl,rfl,by show 1<=u; lia,by show u+(nrem - u)=nrem; lia,rfl⟩ ?_ ?_ |>.mono λ c b1 hc=>?_)
   ·rintro x k ⟨r,m⟩ b1 ⟨eb,er,q1,q2,q3⟩
    dsimp only at er q1 q2 q3 ⊢
    subst eb er
    rw [show lo+m - 1=lo+(m - 1) by lia]
    refine W.bind (W.ltF F4 (by lia) (by lia) ?_)
    have q3:ev (sh O.lt lo) (if sh O.lt lo (AF (kas_rev P3 0 u) m 0) (AF (kas_rev P3 0 u) (m - 1) 0)=true then KasT.ret m else kas_asc (kas_rev P3 0 u) k (m+1))=_:=q3
    cases e:sh O.lt lo (AF (kas_rev P3 0 u) m 0) (AF (kas_rev P3 0 u) (m - 1) 0) with
    | true=>
     rw [e,if_pos rfl] at q3
     simp only [if_true]
     exact W.pure ⟨rfl,rfl,q3,q1,by show m<=nrem; lia⟩
    | false=>
     rw [e,if_neg Ao] at q3
     simp only [Aq,if_false]
     exact W.pure ⟨rfl,rfl,by show 1<=m+1; lia,by show m+1+k=nrem; lia,q3⟩
   ·rintro ⟨r,m⟩ b1 ⟨eb,er,q1,q2,q3⟩
    dsimp only at er q1 q2 q3
    exact ⟨eb,er,q3,q1,by show m<=nrem; lia⟩
   obtain ⟨r,z⟩:=c
   obtain ⟨eb,er,em,z1,z2⟩:=hc
   dsimp only at er em z1 z2 ⊢
   subst eb er
   rw [<-em] at h
   exact W.pure h
  ·rw [if_neg hv] at h ⊢
   have F3:=F'
   generalize P'=P3 at F3 h ⊢
   have e3:ev (sh O.lt lo) (kas_tail3 u nrem P3)=(ev (sh O.lt lo) (kas_asc (kas_rev P3 0 u) (nrem - u) u),kas_rev P3 0 u):=by
    unfold kas_tail3
    rw [dQ]; rfl
   rw [e3] at h
   have F4:=F3.of (bg 0 u F3.perm)
   refine W.bind (W.revF (i:=0) F3 (by lia) ?_)
   refine W.bind (W.range (D:=λ c b1=>b1=abP lo pre pd mg (kas_rev P3 0 u)/\c.1=none/\c.2=ev (sh O.lt lo) (kas_asc (kas_rev P3 0 u) (nrem - u) u)/\1<=c.2/\c.2<=nrem) (λ k c b1=>b1=abP lo pre pd mg (kas_rev P3 0 u)/\c.1=none/\1<=c.2/\c.2+k=nrem/\ev (sh O.lt lo) (kas_asc (kas_rev P3 0 u) k c.2)=ev (sh O.lt lo) (kas_asc (kas_rev P3 0 u) (nrem - u) u)) ⟨rfl,rfl,by show 1<=u; lia,by show u+(nrem - u)=nrem; lia,rfl⟩ ?_ ?_ |>.mono λ c b1 hc=>?_)
   ·rintro x k ⟨r,m⟩ b1 ⟨eb,er,q1,q2,q3⟩
    dsimp only at er q1 q2 q3 ⊢
    subst eb er
    rw [show lo+m - 1=lo+(m - 1) by lia]
    refine W.bind (W.ltF F4 (by lia) (by lia) ?_)
    have q3:ev (sh O.lt lo) (if sh O.lt lo (AF (kas_rev P3 0 u) m 0) (AF (kas_rev P3 0 u) (m - 1) 0)=true then KasT.ret m else kas_asc (kas_rev P3 0 u) k (m+1))=_:=q3
    cases e:sh O.lt lo (AF (kas_rev P3 0 u) m 0) (AF (kas_rev P3 0 u) (m - 1) 0) with
    | true=>
     rw [e,if_pos rfl] at q3
     simp only [if_true]
     exact W.pure ⟨rfl,rfl,q3,q1,by show m<=nrem; lia⟩
    | false=>
     rw [e,if_neg Ao] at q3
     simp only [Aq,if_false]
     exact W.pure ⟨rfl,rfl,by show 1<=m+1; lia,by show m+1+k=nrem; lia,q3⟩
   ·rintro ⟨r,m⟩ b1 ⟨eb,er,q1,q2,q3⟩
    dsimp only at er q1 q2 q3
    exact ⟨eb,er,q3,q1,by show m<=nrem; lia⟩
   obtain ⟨r,z⟩:=c
   obtain ⟨eb,er,em,z1,z2⟩:=hc
   dsimp only at er em z1 z2 ⊢
   subst eb er
   rw [<-em] at h
   exact W.pure h
end
section
variable {O:Orc} {b:Ab} {lo n nrem:Nat} {pre:List Nat} {pd:Array (Nat×Nat×Nat)} {mg:Nat} {P:Array Nat}
theorem W.bin {ok:Nat} {Q:Bool->Ab->Prop} (H:Lt O.lt) (F:Fm O lo nrem pre P) (R:Rn nrem (sh O.lt lo) P ok) (h1:1<=ok) (hn:ok<=n) (hn2:n<=nrem) (h:∀ P',Fm O lo nrem pre P'->Rn nrem (sh O.lt lo) P' n->Q true (abP lo pre pd mg P')) :
  W O (binarySort' lo n ok) Q (abP lo pre pd mg P):=by
 have H':=H.sh lo
 rw [binarySort'_eq]
 rw [show max ok 1=ok by lia]
 refine W.bind (W.rangeV (D:=λ c b1=>c.1=none/\∃ P',b1=abP lo pre pd mg P'/\Fm O lo nrem pre P'/\Rn nrem (sh O.lt lo) P' n) (λ k c b1=>c.1=none/\∃ P',b1=abP lo pre pd mg P'/\Fm O lo nrem pre P'/\Rn nrem (sh O.lt lo) P' k) hn ⟨rfl,P,rfl,F,R⟩ ?_ ?_ |>.mono λ c b1 hc=>?_)
 ·rintro k ⟨r,u⟩ b1 hk1 hk2 ⟨er,P',eb,F',R'⟩
  dsimp only at er
  subst eb er
  have ek:P'.getD k 0=k:=R'.tl k (Ai _) (by lia)
  refine W.bind (W.range (D:=λ c b1=>b1=abP lo pre pd mg P'/\c.1=none/\c.2.1<=k/\(∀ i,i<c.2.1->sh O.lt lo k (P'.getD i 0)=false)/\∀ i,c.2.1<=i->i<k->sh O.lt lo k (P'.getD i 0)=true)
   (λ j c b1=>b1=abP lo pre pd mg P'/\c.1=none/\c.2.1<=c.2.2/\c.2.2<=k/\c.2.2 - c.2.1<=j/\(∀ i,i<c.2.1->sh O.lt lo k (P'.getD i 0)=false)/\∀ i,c.2.2<=i->i<k->sh O.lt lo k (P'.getD i 0)=true)
   ⟨rfl,rfl,AC _,Ai _,by show k - 0<=k - 0; lia,λ i hi=>absurd hi (B1 _),λ i h1 h2=>absurd h1 (by show ¬ k<=i; lia)⟩ ?_ ?_ |>.mono λ c b1 hc=>?_)
  ·rintro x j ⟨r,l,t⟩ b1 ⟨eb,er,q1,q2,q3,q4,q5⟩
   dsimp only at er q1 q2 q3 q4 q5 ⊢
   subst eb er
   by_cases c:l>=t
   ·rw [if_pos c]
    exact W.pure ⟨rfl,rfl,by show l<=k; lia,q4,λ i h1 h2=>q5 i (by have:l<=i:=h1; lia) h2⟩
   ·rw [if_neg c]
    refine W.bind (W.ltF F' (by lia) (by lia) ?_)
    rw [ek]
    cases e:sh O.lt lo k (P'.getD ((l+t) / 2) 0) with
    | true=>
     simp only [if_true]
     refine W.pure ⟨rfl,rfl,by show l<=(l+t) / 2; lia,by show (l+t) / 2<=k; lia,by show (l+t) / 2 - l<=j; lia,q4,λ i h1 h2=>?_⟩
     rcases BU (show (l+t) / 2<=i from h1) with z | z
     ·rw [<-z]; exact e
     ·exact jV H' e (R'.up.at H' z h2).1
    | false=>
     simp only [Aq,if_false]
     refine W.pure ⟨rfl,rfl,by show (l+t) / 2+1<=t; lia,q2,by show t - ((l+t) / 2+1)<=j; lia,λ i h1=>?_,q5⟩
     have h1:i<(l+t) / 2+1:=h1
     rcases Bk i ((l+t) / 2) with z | z
     ·exact H'.tr _ _ _ e (R'.up.at H' z (by lia)).1
     ·have:i=(l+t) / 2:=by lia
      rw [this]; exact e
  ·rintro ⟨r,l,t⟩ b1 ⟨eb,er,q1,q2,q3,q4,q5⟩
   dsimp only at er q1 q2 q3 q4 q5
   exact ⟨eb,er,by show l<=k; lia,q4,λ i h1 h2=>q5 i (by have:l<=i:=h1; lia) h2⟩
  ·obtain ⟨r,l,t⟩:=c
   obtain ⟨eb,er,q1,q4,q5⟩:=hc
   dsimp only at er q1 q4 q5 ⊢
   subst eb er
   exact W.bind (W.movF F' (by lia) q1 (W.pure ⟨rfl,_,rfl,F'.of (iF _ _ F'.perm),R'.put H' (by lia) q1 q4 q5⟩))
 ·rintro ⟨r,u⟩ b1 hc
  exact hc
 ·obtain ⟨r,u⟩:=c
  obtain ⟨er,P',eb,F',R'⟩:=hc
  dsimp only at er ⊢
  subst eb er
  exact W.pure (h P' F' R')
noncomputable def Gd (O:Orc):Nat->List (List Nat)->List (Nat×Nat×Nat)->Prop
 | _,[],[]=>True
 | s,r::rs,d::ds=>d.1=s/\d.2.1=r.length/\0<r.length/\r.Perm (AM s r.length)/\r.Pairwise (Ah O.lt)/\Gd O (s+r.length) rs ds
 | _,_,_=>False
theorem Gd.len:∀ {s:Nat} {rs:List (List Nat)} {ds:List (Nat×Nat×Nat)},Gd O s rs ds->rs.length=ds.length
 | _,[],[],_=>rfl
 | _,_::_,_::_,h=>by rw [Az,Az,Gd.len h.2.2.2.2.2]
 | _,[],_::_,h=>h.elim
 | _,_::_,[],h=>h.elim
theorem Gd.app:∀ {s:Nat} {rs:List (List Nat)} {ds:List (Nat×Nat×Nat)} {rs':List (List Nat)} {ds':List (Nat×Nat×Nat)},Gd O s rs ds->Gd O (s+rs.flatten.length) rs' ds'->Gd O s (rs++rs') (ds++ds')
 | _,[],[],_,_,_,h=>by simpa using h
 | s,r::rs,d::ds,rs',ds',h,h'=>by
  refine ⟨h.1,h.2.1,h.2.2.1,h.2.2.2.1,h.2.2.2.2.1,Gd.app h.2.2.2.2.2 ?_⟩
  rw [Bu,Ay,<-ER] at h'
  exact h'
 | _,[],_::_,_,_,h,_=>h.elim
 | _,_::_,[],_,_,h,_=>h.elim
theorem Gd.cut:∀ {s:Nat} (rs:List (List Nat)) {ds:List (Nat×Nat×Nat)} {rs':List (List Nat)},Gd O s (rs++rs') ds->∃ da db,ds=da++db/\Gd O s rs da/\Gd O (s+rs.flatten.length) rs' db
 | s,[],ds,rs',h=>⟨[],ds,rfl,trivial,by simpa using h⟩
 | s,r::rs,[],rs',h=>h.elim
 | s,r::rs,d::ds,rs',h=>by
  obtain ⟨da,db,e,a,c⟩:=Gd.cut rs h.2.2.2.2.2
  refine ⟨d::da,db,by rw [e]; rfl,⟨h.1,h.2.1,h.2.2.1,h.2.2.2.1,h.2.2.2.2.1,a⟩,?_⟩
  rw [Bu,Ay,<-ER]; exact c
theorem Gd.pair {rs:List (List Nat)} {ds:List (Nat×Nat×Nat)} (h:Gd O 0 rs ds) (hi:i+1<rs.length):∃ A R1 R2 B pw pw2,rs=A++R1::R2::B/\A.length=i/\ds[i]? = some (A.flatten.length,R1.length,pw)/\ds[i+1]? = some (A.flatten.length+R1.length,R2.length,pw2)/\
  R1.Pairwise (Ah O.lt)/\R2.Pairwise (Ah O.lt)/\0<R1.length/\0<R2.length/\(∀ x∈R1,∀ y∈R2,x<y)/\
  ∀ M:List Nat,M.Perm (R1++R2)->M.Pairwise (Ah O.lt)->Gd O 0 (A++M::B) ((ds.set i (A.flatten.length,R1.length+R2.length,pw)).eraseIdx (i+1)):=by
 have e1:rs=rs.take i++rs[i]::rs[i+1]::rs.drop (i+2):=by
  have h1:=Cj (show i<rs.length by lia)
  have h2:=Cj hi
  have:rs.take i++rs.drop i=rs:=Bf i rs
  rw [h1,h2] at this
  exact this.symm
 have hA:(rs.take i).length=i:=by rw [A8]; lia
 generalize rs.take i=A at e1 hA
 generalize rs[i]=R1 at e1
 generalize rs[i+1]=R2 at e1
 generalize rs.drop (i+2)=B at e1
 subst e1
 obtain ⟨da,db,rfl,ga,gb⟩:=Gd.cut A h
 have hda:=ga.len
 rw [CI] at gb
 match db,gb with
 | [],gb=>exact gb.elim
 | [_],gb=>exact gb.2.2.2.2.2.elim
 | (u,nu,pw)::(v,nv,pw2)::db,gb=>
  obtain ⟨x1,x2,x3,x4,x5,y1,y2,y3,y4,y5,gz⟩:=gb
  dsimp only at x1 x2 y1 y2
  subst x1 x2 y1 y2
  have la:da.length=i:=by lia
  refine ⟨A,R1,R2,B,pw,pw2,rfl,hA,?_,?_,x5,y5,x3,y3,λ x hx y hy=>?_,λ M hm hs=>?_⟩
  ·rw [AQ (by lia),la,Ds]; rfl
  ·rw [AQ (by lia),la,show i+1 - i=1 by lia]; rfl
  ·have hx':=x4.mem_iff.mp hx
   have hy':=y4.mem_iff.mp hy
   rw [Ce] at hx' hy'
   lia
  ·have ml:M.length=R1.length+R2.length:=by rw [hm.length_eq,Ay]
   have ed:((da++(A.flatten.length,R1.length,pw)::(A.flatten.length+R1.length,R2.length,pw2)::db).set i (A.flatten.length,R1.length+R2.length,pw)).eraseIdx (i+1)=da++(A.flatten.length,R1.length+R2.length,pw)::db:=by
    rw [List.set_append_right _ _ (by lia),la,Ds,List.set_cons_zero,List.eraseIdx_append_of_length_le (by lia),la,show i+1 - i=1 by lia]
    rfl
   rw [ed]
   refine ga.app ⟨?_,ml.symm,by lia,?_,hs,?_⟩
   ·show _=0+A.flatten.length; lia
   ·rw [CI,ml,<-EL]
    exact hm.trans (x4.append y4)
   ·rw [CI,ml,<-ER]; exact gz
theorem Gd.below:∀ {s:Nat} {rs:List (List Nat)} {ds:List (Nat×Nat×Nat)},Gd O s rs ds->∀ x∈rs.flatten,x<s+rs.flatten.length
 | _,[],[],_,x,hx=>by simp at hx
 | s,r::rs,d::ds,h,x,hx=>by
  rw [Bu] at hx ⊢
  rw [Ay]
  rcases AO.mp hx with z | z
  ·have:=Ce.mp (h.2.2.2.1.mem_iff.mp z); lia
  ·have:=Gd.below h.2.2.2.2.2 x z; lia
 | _,[],_::_,h,_,_=>h.elim
 | _,_::_,[],h,_,_=>h.elim
theorem Gd.many:∀ {s:Nat} {rs:List (List Nat)} {ds:List (Nat×Nat×Nat)},Gd O s rs ds->rs.length<=rs.flatten.length
 | _,[],[],_=>Ai _
 | s,r::rs,d::ds,h=>by
  have:=Gd.many h.2.2.2.2.2
  have:=h.2.2.1
  rw [Bu,Ay,Az]; lia
 | _,[],_::_,h=>h.elim
 | _,_::_,[],h=>h.elim
theorem Gd.pow {f:Nat×Nat×Nat->Nat×Nat×Nat} (hf:∀ d,(f d).1=d.1/\(f d).2.1=d.2.1):∀ {s:Nat} {rs:List (List Nat)} {ds:List (Nat×Nat×Nat)} (i:Nat),Gd O s rs ds->Gd O s rs (ds.modify i f)
 | _,[],[],i,_=>by simp; trivial
 | s,r::rs,d::ds,0,h=>by
  rw [List.modify_zero_cons]
  exact ⟨(hf d).1.trans h.1,(hf d).2.trans h.2.1,h.2.2⟩
 | s,r::rs,d::ds,i+1,h=>by
  rw [List.modify_succ_cons]
  exact ⟨h.1,h.2.1,h.2.2.1,h.2.2.2.1,h.2.2.2.2.1,Gd.pow hf i h.2.2.2.2.2⟩
 | _,[],_::_,_,h=>h.elim
 | _,_::_,[],_,h=>h.elim
theorem rb (lo n:Nat):(As n).map (· + lo)=AM lo n:=by
 have:(λ x:Nat=>x+lo)=λ x=>lo+x:=funext λ x=>E4 x lo
 rw [this,Dt,List.map_add_range']; simp
theorem Rn.split (R:Rn nrem (sh O.lt lo) P n) (H:Lt O.lt):∃ r,P.toList.map (· + lo)=r++AM (lo+n) (nrem - n)/\r.length=n/\r.Perm (AM lo n)/\r.Pairwise (Ah O.lt):=by
 have Pm:=eV R.perm
 have ht:=R.top
 have hz:=Pm.sz
 have hr:AM lo nrem=AM lo n++AM (lo+n) (nrem - n):=by rw [EL]; congr 1; lia
 have hp:(P.toList.map (· + lo)).Perm (AM lo nrem):=by
  have h1:P.toList.Perm (As nrem):=by simpa using DO.mp R.perm
  have h2:(As nrem).map (· + lo)=AM lo nrem:=rb lo nrem
  rw [<-h2]; exact h1.map _
 have hd:(P.toList.drop n).map (· + lo)=AM (lo+n) (nrem - n):=by
  apply FI
  ·simp [hz]
  ·intro i h1 h2
   have hi:n+i<nrem:=by simp at h2; lia
   have:=R.tl (n+i) (by lia) hi
   have e:P.getD (n+i) 0=P.toList[n+i]'(by simp [hz]; exact hi):=by simp [AF,hz,hi]
   rw [e] at this
   rw [FJ,C9,this,List.getElem_range']
   lia
 refine ⟨(P.toList.take n).map (· + lo),?_,by simp [hz]; lia,?_,?_⟩
 ·rw [<-hd,<-AN,Bf]
 ·have:((P.toList.take n).map (· + lo)++AM (lo+n) (nrem - n)).Perm (AM lo n++AM (lo+n) (nrem - n)):=by
   rw [<-hd,<-AN,Bf,hd,<-hr]; exact hp
  exact (List.perm_append_right_iff _).mp this
 ·rw [Bb]
  intro i j hi hj hij
  have hi':i<n:=by simp at hi; lia
  have hj':j<n:=by simp at hj; lia
  have:=R.up.at (H.sh lo) hij hj'
  have e1:P.getD i 0=P.toList[i]'(by simp [hz]; lia):=by simp [AF,hz,show i<nrem by lia]
  have e2:P.getD j 0=P.toList[j]'(by simp [hz]; lia):=by simp [AF,hz,show j<nrem by lia]
  rw [e1,e2] at this
  simp only [FJ,DX]
  exact ⟨this.1,λ z=>Nat.add_lt_add_right (this.2 z) lo⟩
theorem W.runs {N:Nat} {Q:Unit->Ab->Prop} (H:Lt O.lt) (hN:O.N=N) (h2:2<=N) (h:∀ b':Ab,b'.p.toList.Perm (As N)->b'.p.toList.Pairwise (Ah O.lt)->Q () b'):W O sortRuns' Q ⟨Au (As N),#[],7⟩:=by
 rw [sortRuns'_eq]
 refine W.bind (W.get ?_)
 have hz:(arrOf (Ab.st O ⟨Au (As N),#[],7⟩)).size=N:=by
  show ((Au (As N)).map (kas_item O.it)).size=N
  simp
 simp only [hz]
 generalize minRun' N N 0=mr
 have merge:∀ (rs:List (List Nat)) (suf:List Nat) (b1:Ab) (i:Nat),b1.p.toList=rs.flatten++suf->Gd O 0 rs b1.pd.toList->(∀ x∈suf,x<N)->rs.flatten.length<=N->i+1<rs.length->∀ (Q:Bool->Ab->Prop),
   (∀ (rs':List (List Nat)) (b2:Ab),b2.p.toList=rs'.flatten++suf->Gd O 0 rs' b2.pd.toList->rs'.flatten.length=rs.flatten.length->rs'.length+1=rs.length->Q true b2)->W O (mergeAt' i) Q b1:=by
  intro rs suf b1 i e g hs hl hi Q hQ
  obtain ⟨p1,d1,m1⟩:=b1
  dsimp only at e g
  obtain ⟨A,R1,R2,B,pw,pw2,rfl,hA,dd1,dd2,s1,s2,l1,l2,xy,mk⟩:=g.pair hi
  have e':p1.toList=A.flatten++(R1++(R2++(B.flatten++suf))):=by rw [e]; simp
  have bl:=g.below
  refine W.mAt (pre:=A.flatten) (R1:=R1) (R2:=R2) (suf:=B.flatten++suf) ⟨H,e',λ k hk=>?_,s1,s2,xy,l1,l2⟩ (by simpa using dd1) (by simpa using dd2) λ M p' mg' hm hs' ep=>?_
  ·have hk':k<p1.toList.length:=by simpa using hk
   have ek:p1.getD k 0=p1.toList[k]:=by simp [AF,hk]
   rw [ek,hN]
   have hmem:p1.toList[k]∈(A++R1::R2::B).flatten++suf:=by rw [<-e]; exact AU hk'
   rcases AO.mp hmem with z | z
   ·have:=bl _ z; lia
   ·exact hs _ z
  ·refine hQ (A++M::B) _ (by rw [ep]; simp) ?_ ?_ (by simp; lia)
   ·have:=mk M hm hs'
    have ex:((d1.setIfInBounds i (A.flatten.length,R1.length+R2.length,pw)).eraseIdxIfInBounds (i+1)).toList=(d1.toList.set i (A.flatten.length,R1.length+R2.length,pw)).eraseIdx (i+1):=by
     simp
    show Gd O 0 (A++M::B) ((d1.setIfInBounds i (A.flatten.length,R1.length+R2.length,pw)).eraseIdxIfInBounds (i+1)).toList
    rw [ex]; exact this
   ·have:=hm.length_eq
    simp only [ET,Bu,Ay] at this ⊢
    lia
 refine W.bind (W.range (D:=λ c b1=>c.1=none/\c.2=N/\∃ rs:List (List Nat),b1.p.toList=rs.flatten++AM c.2 (N - c.2)/\Gd O 0 rs b1.pd.toList/\rs.flatten.length=c.2) (λ k c b1=>c.1=none/\c.2<=N/\N<=c.2+k/\∃ rs:List (List Nat),b1.p.toList=rs.flatten++AM c.2 (N - c.2)/\Gd O 0 rs b1.pd.toList/\rs.flatten.length=c.2) ⟨rfl,AC _,by show N<=0+(N - 0); lia,[],by show (Au (As N)).toList=[]++AM 0 (N - 0); simp [Dt],by exact trivial,rfl⟩ ?_ ?_ |>.mono λ c b1 hc=>?_)
 rotate_left
 ·rintro ⟨r,lo⟩ b1 ⟨er,q1,q2,q3⟩
  dsimp only at er q1 q2 q3
  exact ⟨er,by show lo=N; lia,q3⟩
 ·obtain ⟨r,lo⟩:=c
  obtain ⟨er,q1,rs,e,g,hl⟩:=hc
  dsimp only at er q1 e g hl ⊢
  subst er q1
  rw [Ds,List.range'_zero] at e
  have gm:=g.many
  refine W.bind (W.range (D:=λ c b2=>c.1=none/\∃ rs':List (List Nat),b2.p.toList=rs'.flatten++[]/\Gd O 0 rs' b2.pd.toList/\rs'.flatten.length=lo/\rs'.length<=1) (λ k c b2=>c.1=none/\∃ rs':List (List Nat),b2.p.toList=rs'.flatten++[]/\Gd O 0 rs' b2.pd.toList/\rs'.flatten.length=lo/\rs'.length<=k+1) ⟨rfl,rs,e,g,hl,by show rs.length<=lo - 0+1; lia⟩ ?_ ?_ |>.mono λ c b2 hc=>?_)
  ·rintro x k ⟨r,u⟩ b2 ⟨er,rs',e',g',hl',hk⟩
   dsimp only at er
   subst er
   refine W.bind (W.get ?_)
   have hp:pendingOf (Ab.st O b2)=b2.pd:=rfl
   simp only [hp]
   have hps:b2.pd.size=rs'.length:=by rw [g'.len]; simp
   by_cases c1:b2.pd.size<=1
   ·rw [if_pos c1]
    exact W.pure ⟨rfl,rs',e',g',hl',by lia⟩
   rw [if_neg c1]
   refine W.bind ?_
   refine merge rs' [] b2 _ e' g' (λ x hx=>nomatch hx) (by lia) ?_ _ λ rs2 b3 e3 g3 hl3 hk3=>?_
   ·(repeat' split)<;>lia
   simp only [Cw,Aq,if_false]
   exact W.pure ⟨rfl,rs2,e3,g3,by lia,by lia⟩
  ·rintro ⟨r,u⟩ b2 ⟨er,rs',e',g',hl',hk⟩
   exact ⟨er,rs',e',g',hl',by lia⟩
  ·obtain ⟨r,u⟩:=c
   obtain ⟨er,rs',e',g',hl',hk⟩:=hc
   dsimp only at er ⊢
   subst er
   dsimp only
   refine W.pure ?_
   match rs',hk with
   | [],_=>simp at hl'; lia
   | [r],_=>
    have ev1:b2.p.toList=r:=by rw [e']; simp
    have lr:r.length=lo:=by simpa using hl'
    match hd:b2.pd.toList,g' with
    | d::ds,g'=>
     have pr:=g'.2.2.2.1
     rw [lr] at pr
     refine h b2 (by rw [ev1,Dt]; exact pr) (by rw [ev1]; exact g'.2.2.2.2.1)
 rintro x k ⟨r,lo⟩ b1 ⟨er,q1,q2,rs,e,g,hl⟩
 dsimp only at er q1 q2 e g hl ⊢
 subst er
 by_cases c0:lo>=N
 ·rw [if_pos c0]
  exact W.pure ⟨rfl,by show lo=N; lia,rs,e,g,hl⟩
 rw [if_neg c0]
 obtain ⟨p1,d1,m1⟩:=b1
 dsimp only at e g
 have F0:Fm O lo (N - lo) rs.flatten (Au (As (N - lo))):=⟨hl,λ x hx=>by have:=g.below x hx; rw [hN]; lia,by rw [hN]; lia,FX _⟩
 have eb:(⟨p1,d1,m1⟩:Ab)=abP lo rs.flatten d1 m1 (Au (As (N - lo))):=by
  unfold abP
  congr 1
  apply BP.mp
  rw [e]
  have:(As (N - lo)).map (· + lo)=AM lo (N - lo):=rb lo (N - lo)
  simp [this]
 rw [eb]
 have HS:=H.sh lo
 obtain ⟨n1,R1⟩:=Sat.ev _ (nF (N:=N - lo) HS (by lia))
 refine W.bind (W.cnt F0 (by lia) ?_)
 generalize ev (sh O.lt lo) (kas_count (N - lo) (Au (As (N - lo))))=R at n1 R1 ⊢
 obtain ⟨n,P1⟩:=R
 dsimp only at n1 R1 ⊢
 have nt:=R1.top
 have F1:Fm O lo (N - lo) rs.flatten P1:=F0.of R1.perm
 by_cases c1:n<mr
 ·rw [if_pos c1]
  refine W.bind (W.rule ?_)
  refine W.bind (W.bin H F1 R1 n1 (show n<=min (N - lo) mr by lia) (by lia) λ P2 F2 R2=>?_)
  have n2:1<=min (N - lo) mr:=by lia
  have nt2:min (N - lo) mr<=N - lo:=by lia
  generalize min (N - lo) mr=n' at R2 n2 nt2 ⊢
  simp only [Cw,Aq,if_false]
  obtain ⟨r,er1,er2,er3,er4⟩:=R2.split H
  have hsuf:∀ x∈r++AM (lo+n') (N - lo - n'),x<N:=λ x hx=>by
   rcases AO.mp hx with z | z
   ·have:=Ce.mp (er3.mem_iff.mp z); lia
   ·have:=Ce.mp z; lia
  have fin:∀ (rs2:List (List Nat)) (b2:Ab),b2.p.toList=rs2.flatten++(r++AM (lo+n') (N - lo - n'))->Gd O 0 rs2 b2.pd.toList->rs2.flatten.length=lo->(λ c (b1:Ab)=>c.1=none/\c.2<=N/\N<=c.2+k/\∃ rs:List (List Nat),b1.p.toList=rs.flatten++AM c.2 (N - c.2)/\Gd O 0 rs b1.pd.toList/\rs.flatten.length=c.2) ((none:Option PUnit),lo+n') { b2 with pd:=b2.pd.push (lo,n',0) }:=λ rs2 b2 e2 g2 l2=>by
   refine ⟨rfl,by show lo+n'<=N; lia,by show N<=lo+n'+k; lia,rs2++[r],?_,?_,?_⟩
   ·show b2.p.toList=_++AM (lo+n') (N - (lo+n'))
    rw [e2,show N - (lo+n')=N - lo - n' by lia]; simp
   ·show Gd O 0 (rs2++[r]) (b2.pd.push (lo,n',0)).toList
    rw [C8]
    refine g2.app ⟨by show lo=0+rs2.flatten.length; lia,by show n'=r.length; lia,by lia,?_,er4,trivial⟩
    rw [CI,l2,er2]; exact er3
   ·show (rs2++[r]).flatten.length=lo+n'; simp at l2 ⊢; lia
  have e0:(abP lo rs.flatten d1 m1 P2).p.toList=rs.flatten++(r++AM (lo+n') (N - lo - n')):=by rw [<-er1]; rfl
  refine W.bind (W.get ?_)
  have hp:pendingOf (Ab.st O (abP lo rs.flatten d1 m1 P2))=d1:=rfl
  simp only [hp]
  cases hb:d1.back? with
  | none=>
   dsimp only
   exact W.bind (W.modify { abP lo rs.flatten d1 m1 P2 with pd:=d1.push (lo,n',0) } rfl (W.pure (fin rs _ e0 g hl)))
  | some w9=>
   obtain ⟨u9,v9,z9⟩:=w9
   dsimp only
   generalize power' N (2*u9+v9) (2*u9+v9+v9+n') N=pw9
   refine W.bind (W.range (D:=λ c b2=>c.1=none/\∃ rs2:List (List Nat),b2.p.toList=rs2.flatten++(r++AM (lo+n') (N - lo - n'))/\Gd O 0 rs2 b2.pd.toList/\rs2.flatten.length=lo) (λ k c b2=>c.1=none/\∃ rs2:List (List Nat),b2.p.toList=rs2.flatten++(r++AM (lo+n') (N - lo - n'))/\Gd O 0 rs2 b2.pd.toList/\rs2.flatten.length=lo) ⟨rfl,rs,e0,g,hl⟩ ?_ ?_ |>.mono λ c b2 hc=>?_)
   ·rintro x k ⟨r2,u2⟩ b2 ⟨er,rs2,e2,g2,l2⟩
    dsimp only at er
    subst er
    refine W.bind (W.get ?_)
    have hp:pendingOf (Ab.st O b2)=b2.pd:=rfl
    simp only [hp]
    have hps:b2.pd.size=rs2.length:=by rw [g2.len]; simp
    cases ho:(if b2.pd.size > 1 then b2.pd[b2.pd.size - 2]? else none) with
    | none=>exact W.pure ⟨rfl,rs2,e2,g2,l2⟩
    | some w8=>
     obtain ⟨u8,v8,z8⟩:=w8
     dsimp only
     have hgt:b2.pd.size > 1:=by
      by_cases q:b2.pd.size > 1
      ·exact q
      ·rw [if_neg q] at ho; cases ho
     refine W.ite (λ _=>W.pure ⟨rfl,rs2,e2,g2,l2⟩) (λ _=>?_)
     refine W.bind (merge rs2 _ b2 _ e2 g2 hsuf (by lia) (by lia) _ λ rs3 b3 e3 g3 l3 k3=>?_)
     simp only [Cw,Aq,if_false]
     exact W.pure ⟨rfl,rs3,e3,g3,by lia⟩
   ·rintro ⟨r2,u2⟩ b2 hc
    exact hc
   ·obtain ⟨r2,u2⟩:=c
    obtain ⟨er,rs2,e2,g2,l2⟩:=hc
    dsimp only at er ⊢
    subst er
    dsimp only
    have g3:Gd O 0 rs2 (b2.pd.modify (b2.pd.size - 1) λ x=>(x.1,x.2.1,pw9)).toList:=by
     rw [EU]
     exact g2.pow (f:=λ x=>(x.1,x.2.1,pw9)) (λ d=>⟨rfl,rfl⟩) _
    refine W.bind (W.modify { b2 with pd:=b2.pd.modify (b2.pd.size - 1) λ x=>(x.1,x.2.1,pw9) } rfl ?_)
    exact W.bind (W.modify { b2 with pd:=(b2.pd.modify (b2.pd.size - 1) λ x=>(x.1,x.2.1,pw9)).push (lo,n',0) } rfl (W.pure (fin rs2 { b2 with pd:=b2.pd.modify (b2.pd.size - 1) λ x=>(x.1,x.2.1,pw9) } e2 g3 l2)))
 ·rw [if_neg c1]
  obtain ⟨r,er1,er2,er3,er4⟩:=R1.split H
  have hsuf:∀ x∈r++AM (lo+n) (N - lo - n),x<N:=λ x hx=>by
   rcases AO.mp hx with z | z
   ·have:=Ce.mp (er3.mem_iff.mp z); lia
   ·have:=Ce.mp z; lia
  have fin:∀ (rs2:List (List Nat)) (b2:Ab),b2.p.toList=rs2.flatten++(r++AM (lo+n) (N - lo - n))->Gd O 0 rs2 b2.pd.toList->rs2.flatten.length=lo->(λ c (b1:Ab)=>c.1=none/\c.2<=N/\N<=c.2+k/\∃ rs:List (List Nat),b1.p.toList=rs.flatten++AM c.2 (N - c.2)/\Gd O 0 rs b1.pd.toList/\rs.flatten.length=c.2) ((none:Option PUnit),lo+n) { b2 with pd:=b2.pd.push (lo,n,0) }:=λ rs2 b2 e2 g2 l2=>by
   refine ⟨rfl,by show lo+n<=N; lia,by show N<=lo+n+k; lia,rs2++[r],?_,?_,?_⟩
   ·show b2.p.toList=_++AM (lo+n) (N - (lo+n))
    rw [e2,show N - (lo+n)=N - lo - n by lia]; simp
   ·show Gd O 0 (rs2++[r]) (b2.pd.push (lo,n,0)).toList
    rw [C8]
    refine g2.app ⟨by show lo=0+rs2.flatten.length; lia,by show n=r.length; lia,by lia,?_,er4,trivial⟩
    rw [CI,l2,er2]; exact er3
   ·show (rs2++[r]).flatten.length=lo+n; simp at l2 ⊢; lia
  have e0:(abP lo rs.flatten d1 m1 P1).p.toList=rs.flatten++(r++AM (lo+n) (N - lo - n)):=by rw [<-er1]; rfl
  refine W.bind (W.get ?_)
  have hp:pendingOf (Ab.st O (abP lo rs.flatten d1 m1 P1))=d1:=rfl
  simp only [hp]
  cases hb:d1.back? with
  | none=>
   dsimp only
   exact W.bind (W.modify { abP lo rs.flatten d1 m1 P1 with pd:=d1.push (lo,n,0) } rfl (W.pure (fin rs _ e0 g hl)))
  | some w9=>
   obtain ⟨u9,v9,z9⟩:=w9
   dsimp only
   generalize power' N (2*u9+v9) (2*u9+v9+v9+n) N=pw9
   refine W.bind (W.range (D:=λ c b2=>c.1=none/\∃ rs2:List (List Nat),b2.p.toList=rs2.flatten++(r++AM (lo+n) (N - lo - n))/\Gd O 0 rs2 b2.pd.toList/\rs2.flatten.length=lo) (λ k c b2=>c.1=none/\∃ rs2:List (List Nat),b2.p.toList=rs2.flatten++(r++AM (lo+n) (N - lo - n))/\Gd O 0 rs2 b2.pd.toList/\rs2.flatten.length=lo) ⟨rfl,rs,e0,g,hl⟩ ?_ ?_ |>.mono λ c b2 hc=>?_)
   ·rintro x k ⟨r2,u2⟩ b2 ⟨er,rs2,e2,g2,l2⟩
    dsimp only at er
    subst er
    refine W.bind (W.get ?_)
    have hp:pendingOf (Ab.st O b2)=b2.pd:=rfl
    simp only [hp]
    have hps:b2.pd.size=rs2.length:=by rw [g2.len]; simp
    cases ho:(if b2.pd.size > 1 then b2.pd[b2.pd.size - 2]? else none) with
    | none=>exact W.pure ⟨rfl,rs2,e2,g2,l2⟩
    | some w8=>
     obtain ⟨u8,v8,z8⟩:=w8
     dsimp only
     have hgt:b2.pd.size > 1:=by
      by_cases q:b2.pd.size > 1
      ·exact q
      ·rw [if_neg q] at ho; cases ho
     refine W.ite (λ _=>W.pure ⟨rfl,rs2,e2,g2,l2⟩) (λ _=>?_)
     refine W.bind (merge rs2 _ b2 _ e2 g2 hsuf (by lia) (by lia) _ λ rs3 b3 e3 g3 l3 k3=>?_)
     simp only [Cw,Aq,if_false]
     exact W.pure ⟨rfl,rs3,e3,g3,by lia⟩
   ·rintro ⟨r2,u2⟩ b2 hc
    exact hc
   ·obtain ⟨r2,u2⟩:=c
    obtain ⟨er,rs2,e2,g2,l2⟩:=hc
    dsimp only at er ⊢
    subst er
    dsimp only
    have g3:Gd O 0 rs2 (b2.pd.modify (b2.pd.size - 1) λ x=>(x.1,x.2.1,pw9)).toList:=by
     rw [EU]
     exact g2.pow (f:=λ x=>(x.1,x.2.1,pw9)) (λ d=>⟨rfl,rfl⟩) _
    refine W.bind (W.modify { b2 with pd:=b2.pd.modify (b2.pd.size - 1) λ x=>(x.1,x.2.1,pw9) } rfl ?_)
    exact W.bind (W.modify { b2 with pd:=(b2.pd.modify (b2.pd.size - 1) λ x=>(x.1,x.2.1,pw9)).push (lo,n,0) } rfl (W.pure (fin rs2 { b2 with pd:=b2.pd.modify (b2.pd.size - 1) λ x=>(x.1,x.2.1,pw9) } e2 g3 l2)))
end
end L2
namespace HT
open PySem PyProof.Rows PySem.W L2
theorem tH {prog:Program} {w:World} {A:Around} {E:Value->Shared->Prop} {s:Shared} {κ:SortKind} {lt:Nat->Nat->Bool} {ks:List Value} {I:Shared->Prop} (hl:ks.length=vs.length) (h2:2<=vs.length) (H:Lt lt) (hI:I s)
  (hc:∀ i j s',i<vs.length->j<vs.length->I s'->wpAny (model prog w) A (keyLt' κ (ks.getD i AT) (ks.getD j AT)) (λ b s''=>b=lt i j/\I s'') (λ _ _=>False) s') :
  wpAny (model prog w) A ((sortRuns').run (BI κ (ks.toArray.zip vs.toArray) #[] 7 none))
   (λ r s'=>∃ p:Array Nat,arrOf r.2=p.map (kas_item (ks.toArray.zip vs.toArray))/\failedOf r.2=none/\p.size=vs.length/\I s'/\p.toList.Perm (As vs.length)/\p.toList.Pairwise (Ah lt)) E s:=by
 have hc':∀ i j s',i<vs.length->j<vs.length->I s'->kas_cmp prog w A κ (ks.toArray.zip vs.toArray) i j (λ b s''=>b=lt i j/\I s'') s':=λ i j s' hi hj hs=>by
  have:=hc i j s' hi hj hs
  rw [<-kat_ask_eq (prog:=prog) (w:=w) (A:=A) (κ:=κ) hl]
  exact this
 have run:=W.runs (O:=⟨prog,w,A,E,κ,ks.toArray.zip vs.toArray,vs.length,lt,I,hc'⟩) (N:=vs.length) (Q:=λ _ b'=>b'.p.toList.Perm (As vs.length)/\b'.p.toList.Pairwise (Ah lt)) H rfl h2 (λ b' h1 h2=>⟨h1,h2⟩) s hI
 have est:BI κ (ks.toArray.zip vs.toArray) #[] 7 none=Ab.st ⟨prog,w,A,E,κ,ks.toArray.zip vs.toArray,vs.length,lt,I,hc'⟩ ⟨Au (As vs.length),#[],7⟩:=by
  have e:=kas_range (ks.toArray.zip vs.toArray)
  rw [show (ks.toArray.zip vs.toArray).size=vs.length by simp [hl]] at e
  show BI κ (ks.toArray.zip vs.toArray) #[] 7 none=BI κ ((Au (As vs.length)).map (kas_item (ks.toArray.zip vs.toArray))) #[] 7 none
  rw [e]
 rw [est]
 refine wpAny_mono run (λ r s' hr=>?_) λ _ _ z=>z
 obtain ⟨hi,b',eb,p1,p2⟩:=hr
 obtain ⟨u,st⟩:=r
 have eb:st=Ab.st _ b':=eb
 subst eb
 exact ⟨b'.p,rfl,rfl,by rw [<-Bs,p1.length_eq,Cd],hi,p1,p2⟩
section
variable {prog:Program} {w:World} {A:Around} {E:Value->Shared->Prop} {s:Shared}
theorem qc {R:Nat->Nat->Prop} (n:Nat) (h:n<2):(As n).Pairwise R:=by
 match n,h with
 | 0,_=>exact .nil
 | 1,_=>exact C6 _ _
theorem iG {κ:SortKind} {lt:Nat->Nat->Bool} {P:Hv->Shared->Prop} (ho:s.heap.get? a=some (seqObj "list" vs.toArray n)) (h64:vs.length<1000) (H:Lt lt)
  (hk:∀ h' (Q:SortKind->Shared->Prop),2<=vs.length->(∀ b o,b≠a->s.heap.get? b=some o->h'.get? b=some o)->Q κ { s with heap:=h' }->wpAny (model prog w) A (keyKind' vs.toArray) Q (λ _ _=>False) { s with heap:=h' })
  (hc:∀ h' i j (Q:Bool->Shared->Prop),i<vs.length->j<vs.length->(∀ b o,b≠a->s.heap.get? b=some o->h'.get? b=some o)->Q (lt i j) { s with heap:=h' }->
   wpAny (model prog w) A (keyLt' κ (vs.getD i AT) (vs.getD j AT)) Q (λ _ _=>False) { s with heap:=h' })
  (h:∀ p:List Nat,p.Perm (As vs.length)->p.Pairwise (Ah lt)->P (.done (.ret .none)) { s with heap:=sortedHeap s.heap a vs (Au (p.map λ i=>vs.getD i AT)) }) :
  wpAny (model prog w) A (Builtin.«list.sort» ⟨[.ref a],[]⟩) P E s:=by
 rw [list_sort_plain]
 have ha:a<s.heap.objs.size:=Am ho
 refine wpAny_bind (listItems_at ho rfl ?_)
 refine wpAny_bind (listUpdate_at ho rfl ?_ (by rw [Ar,sizeLine_eq]; lia) (AC _))
 obtain ⟨e1,ho1⟩:∃ e1,(s.heap.update a (BB λ _=>(#[]:Array Value))).get? a=some (seqObj "list" #[] e1):=⟨_,get?_update_seq ho (λ _=>#[])⟩
 refine wpAny_bind (seqEpoch_at ho1 rfl ?_)
 refine wpAny_bind (wpAny_newTuple ?_ (by show vs.length<=_; rw [sizeLine_eq]; lia))
 refine wpAny_bind (wpAny_newList ?_ (AC _))
 refine wpAny_holding ?_
 have ho6:(((s.heap.update a (BB λ _=>(#[]:Array Value))).push (seqObj "tuple" vs.toArray 0)).push (seqObj "list" #[] 0)).get? a=some (seqObj "list" #[] e1):=by
  rw [B2 _ _ _ (by rw [size_push',CN]; exact AB (Da ha)),B2 _ _ _ (by rw [CN]; exact AB ha)]
  exact ho1
 have kp:∀ b o,b≠a->s.heap.get? b=some o->(((s.heap.update a (BB λ _=>(#[]:Array Value))).push (seqObj "tuple" vs.toArray 0)).push (seqObj "list" #[] 0)).get? b=some o:=λ b o hb e=>by
  have hlt:=Am e
  rw [B2 _ _ _ (by rw [size_push',CN]; exact AB (Da hlt)),B2 _ _ _ (by rw [CN]; exact AB hlt),CQ _ _ _ _ hb]
  exact e
 show wpAny (model prog w) A _ P E { s with heap:=((s.heap.update a (BB λ _=>(#[]:Array Value))).push (seqObj "tuple" vs.toArray 0)).push (seqObj "list" #[] 0) }
 dsimp only
 have hsz:vs.toArray.size=vs.length:=by simp
 by_cases h2:vs.toArray.size<2
 ·rw [if_pos h2,if_pos h2]
  refine wpAny_bind (wpAny_pure ?_)
  rw [StateT.run_pure]
  refine wpAny_bind (wpAny_pure ?_)
  dsimp only
  refine wpAny_bind (seqEpoch_at ho6 rfl ?_)
  refine wpAny_bind (listUpdate_at ho6 rfl ?_ (AC _) (by rw [DB]; show (pairsOf vs).size<=_; rw [pairsOf_size,sizeLine_eq]; lia))
  simp only [bne_self_eq_false,Aq,if_false]
  have:=h (As vs.length) (B5 _) (qc _ (by lia))
  have eo:(arrOf (BI general' (vs.toArray.zip vs.toArray) #[] 7 none)).map (·.2)=Au ((As vs.length).map λ i=>vs.getD i AT):=by
   have e:=kas_range (vs.toArray.zip vs.toArray)
   rw [show (vs.toArray.zip vs.toArray).size=vs.length by simp] at e
   have:=kat_snds (st:=BI general' (vs.toArray.zip vs.toArray) #[] 7 none) (ks:=vs) (vs:=vs) rfl e.symm
   simpa using this
  rw [<-eo] at this
  exact wpAny_pure this
 ·rw [if_neg h2,if_neg h2]
  refine wpAny_bind (wpAny_mono (hk _ (λ κ' s'=>κ'=κ/\s'={ s with heap:=((s.heap.update a (BB λ _=>(#[]:Array Value))).push (seqObj "tuple" vs.toArray 0)).push (seqObj "list" #[] 0) }) (by lia) kp ⟨rfl,rfl⟩) (λ κ' s' hh=>?_) λ _ _ x=>x.elim)
  obtain ⟨rfl,rfl⟩:=hh
  refine wpAny_bind (wpAny_mono (tH (ks:=vs) (I:=λ s'=>s'={ s with heap:=((s.heap.update a (BB λ _=>(#[]:Array Value))).push (seqObj "tuple" vs.toArray 0)).push (seqObj "list" #[] 0) }) rfl (by lia) H rfl (λ i j s' hi hj es=>by subst es; exact hc _ i j _ hi hj kp ⟨rfl,rfl⟩)) ?_ λ _ _ e=>e)
  rintro ⟨⟨⟩,st'⟩ s' ⟨p,har,hf,hp,rfl,q1,q2⟩
  dsimp only
  have hout:=kat_snds rfl har
  rw [hout]
  refine wpAny_bind (seqEpoch_at ho6 rfl ?_)
  refine wpAny_bind (listUpdate_at ho6 rfl ?_ (AC _) (by rw [Ar,Af,Bs,hp,sizeLine_eq]; lia))
  rw [hf]
  simp only [bne_self_eq_false,Aq,if_false]
  exact wpAny_pure (h p.toList q1 q2)
theorem ft {κ:SortKind} {lt:Nat->Nat->Bool} (hl:s.heap.IsList l vs.toArray) (h64:vs.length<1000) (H:Lt lt)
  (hk:∀ h' (Q:SortKind->Shared->Prop),2<=vs.length->(∀ b o,s.heap.get? b=some o->h'.get? b=some o)->Q κ { s with heap:=h' }->wpAny (model prog w) A.in1.in1 (keyKind' vs.toArray) Q (λ _ _=>False) { s with heap:=h' })
  (hc:∀ h' i j (Q:Bool->Shared->Prop),i<vs.length->j<vs.length->(∀ b o,s.heap.get? b=some o->h'.get? b=some o)->Q (lt i j) { s with heap:=h' }->
   wpAny (model prog w) A.in1.in1 (keyLt' κ (vs.getD i AT) (vs.getD j AT)) Q (λ _ _=>False) { s with heap:=h' })
  (h:∀ p:List Nat,p.Perm (As vs.length)->p.Pairwise (Ah lt)->Q (.ref (s.heap.objs.size+1)) { s with heap:=sortedAll s.heap vs (Au (p.map λ i=>vs.getD i AT)) }) :
  wpAny (model prog w) A (call (.builtin "sorted") [.ref l]) Q E s:=by
 refine Calls.call_function_entry kind_sorted plain_sorted entry_sorted (args_sorted1 _) ?_
 unfold Builtin.«sorted»
 refine wpAny_bind (m:=checkCount "sorted" 1 1 _) (wpAny_pure ?_)
 refine wpAny_bind (collect_list hl ?_ (by rw [sizeLine_eq]; lia))
 refine wpAny_bind (wpAny_newList ?_ (by rw [sizeLine_eq]; lia))
 have hsz:((s.heap.push (seqObj "list" #[] 0)).update s.heap.objs.size (BB (·++vs.toArray))).objs.size=s.heap.objs.size+1:=by
  rw [CN,size_push']
 have hoL:(((s.heap.push (seqObj "list" #[] 0)).update s.heap.objs.size (BB (·++vs.toArray))).push (seqObj "list" vs.toArray 0)).get? (s.heap.objs.size+1)=some (seqObj "list" vs.toArray 0):=by
  rw [<-hsz]; exact AW _ rfl
 have keep:∀ b o,s.heap.get? b=some o->(((s.heap.push (seqObj "list" #[] 0)).update s.heap.objs.size (BB (·++vs.toArray))).push (seqObj "list" vs.toArray 0)).get? b=some o:=λ b o q=>by
  have hlt:b<s.heap.objs.size:=Am q
  rw [B2 _ _ _ (by rw [hsz]; exact AB (Da hlt)),CQ _ _ _ _ (AB hlt),B2 _ _ _ (AB hlt)]
  exact q
 have ne:∀ b o,s.heap.get? b=some o->b≠s.heap.objs.size+1:=λ b o q=>AB (Da (Am q))
 show wpAny _ _ _ _ _ { s with heap:=((s.heap.push (seqObj "list" #[] 0)).update s.heap.objs.size (BB (·++vs.toArray))).push (seqObj "list" vs.toArray 0) }
 rw [hsz]
 refine wpAny_bind (wpAny_holding (wpAny_call_entry slot_list_sort ⟨_,hoL,rfl⟩ entry_list_sort (iG hoL h64 H
  (λ h' Q' h2 k q=>hk h' Q' h2 (λ b o e=>k b o (ne b o e) (keep b o e)) q) (λ h' i j Q' hi hj k q=>hc h' i j Q' hi hj (λ b o e=>k b o (ne b o e) (keep b o e)) q) λ p a1 a2=>⟨_,rfl,?_⟩) (args_list_sort _)))
 exact wpAny_pure ⟨_,rfl,h p a1 a2⟩
theorem iH {fin:Bool} {Q:Bool->Shared->Prop}:∀ {xs ys:List Value} {ns ms:List Int},IntsAre xs ns->IntsAre ys ms->∀ (i:Nat) (b:Bool),fin=decide (ns.length<ms.length)->Q (aQ ns ms) s->
  KatLex prog w A b fin Q (xs.zip ys) i s
 | _,_,_,_,.nil,.nil,i,b,e,h=>by subst e; exact h
 | _,_,_,_,.nil,.cons m u r,i,b,e,h=>by
  subst e; rw [C7]; refine kat_nil ?_; simpa using (show Q true s from h)
 | _,_,_,_,.cons n t r,.nil,i,b,e,h=>by
  subst e; rw [CW]; refine kat_nil ?_; simpa using (show Q false s from h)
 | _,_,_,_,.cons n t r,.cons m u r',i,b,e,h=>by
  rw [BG]
  refine kat_cons (wpAny_eqBool_int ?_)
  rw [bb] at h
  by_cases hn:n=m
  ·rw [if_pos hn] at h
   rw [show (n == m)=true by simp [hn]]
   exact kat_yes (iH r r' (i+1) b (by rw [e]; simp) h)
  ·rw [if_neg hn] at h
   rw [show (n == m)=false by simp [hn]]
   refine kat_no ?_
   cases (b && i == 0) with
   | true=>exact oneLt_int h
   | false=>exact kat_one _ _ (lt_int h)
theorem qd {x y:Addr} {its its2:Array Value} {ns ms:List Int} {b:Bool} {Q:Bool->Shared->Prop} (hx:IsTup s.heap x its) (hy:IsTup s.heap y its2) (hi:IntsAre its.toList ns) (hj:IntsAre its2.toList ms) (h:Q (aQ ns ms) s) :
  wpAny (model prog w) A (keyLt' (tuples' b) (.ref x) (.ref y)) Q E s:=by
 obtain ⟨o,ho,hc,n,hd⟩:=id hx
 obtain ⟨o2,ho2,hc2,n2,hd2⟩:=id hy
 refine kat_lt ho hd ho2 hd2 (iH hi hj 0 b ?_ h)
 rw [<-hi.length,<-hj.length]; simp
theorem tK {x y:Addr} {its its2:Array Value} {ns ms:List Int} {Q:Bool->Shared->Prop} (hu:A.units<cLine) (hx:IsTup s.heap x its) (hy:IsTup s.heap y its2) (hi:IntsAre its.toList ns) (hj:IntsAre its2.toList ms) (h:Q (aQ ns ms) s) :
  wpAny (model prog w) A (keyLt' oneType' (.ref x) (.ref y)) Q E s:=by
 obtain ⟨⟨cls,dd,data,sl⟩,ho,hc,n,hd⟩:=id hx
 obtain ⟨⟨cls2,dd2,data2,sl2⟩,ho2,hc2,n2,hd2⟩:=id hy
 simp only at hc hd hc2 hd2
 subst hc hd hc2 hd2
 rw [keyLt'_oneType,oneLt'_eq]
 simp only [if_true]
 refine wpAny_bind (wpAny_cRoomFor hu ?_)
 refine wpAny_bind (wpAny_callSpecialIfBound?_slot (T:="tuple") ⟨_,ho,rfl⟩ Dk (call_meets Dk ⟨_,ho,rfl⟩ En (Eb _ _) (eU x y its its2 n n2 dd dd2 sl sl2 ns ms hi hj) ⟨ho,ho2,?_⟩))
 exact wpAny_truthy_bool h
theorem qe {Q:SortKind->Shared->Prop} (h2:2<=vs.length) (ht:∀ v∈vs,∃ a,v=.ref a/\IsTup s.heap a #[]) (h:Q oneType' s) :
  wpAny (model prog w) A (keyKind' vs.toArray) Q E s:=by
 obtain ⟨v₁,rest,rfl⟩:∃ v₁ rest,vs=v₁::rest:=by
  match vs,h2 with
  | v₁::rest,_=>exact ⟨v₁,rest,rfl⟩
 rw [kat_kind_eq,Fp,map_eq_pure_bind]
 refine wpAny_bind (wpAny_bind (kas_mapM (r:=none) _ (λ v hv Q' hq=>?_) (wpAny_pure ?_)))
 ·obtain ⟨a,rfl,o,ho,hc,n,hd⟩:=ht v hv
  rw [kas_first_eq]
  refine wpAny_bind (Looks.here (show Looks (model prog w) s.heap (typeOf (.ref a)) o.cls from (Looks.ld ho).andThen .now) ?_)
  rw [hc,if_neg (by first | decide | simp)]
  refine wpAny_bind (listItems_at ho hd (wpAny_pure ?_))
  exact hq
 ·rw [if_neg (by simp),if_neg (by simp)]
  rw [oneTypeOnly'_eq,Fp,map_eq_pure_bind]
  refine wpAny_bind (wpAny_bind (wpAny_bind (kas_mapM (r:=BX "tuple") _ (λ v hv Q' hq=>?_) (wpAny_pure ?_))))
  ·obtain ⟨a,rfl,o,ho,hc,n,hd⟩:=ht v hv
   refine Looks.here (show Looks (model prog w) s.heap (typeOf (.ref a)) (BX "tuple") from ?_) hq
   rw [<-hc]
   exact (Looks.ld ho).andThen .now
  ·have hall:((FK (λ _=>BX "tuple") (v₁::rest)).toArray.all λ x=>x == BX "tuple")=true:=by
    simp only [List.all_toArray,List.all_map,FE]
    intro _ _
    rfl
   have h0:(FK (λ _=>BX "tuple") (v₁::rest)).toArray[0]? = some (BX "tuple"):=by simp
   rw [h0]
   simp only [hall,if_true]
   exact wpAny_pure (wpAny_pure h)
theorem nG:∀ {vs:List Value} {rss:List (List Int)},vs.length=rss.length->(∀ (i:Nat) v r,vs[i]? = some v->rss[i]? = some r->∃ a its,v=.ref a/\IsTup s.heap a its/\IntsAre its.toList r)->(∀ r∈rss,r≠[])->
  ∃ fs,KatTups s.heap vs fs/\fs.length=vs.length/\∀ f∈fs,∃ n t,f=Ef n t
 | [],[],_,_,_=>⟨[],.nil,rfl,λ _ h=>nomatch h⟩
 | v::vs,r::rss,hl,h,hne=>by
  obtain ⟨fs,k1,k2,k3⟩:=nG (vs:=vs) (rss:=rss) (by simpa using hl) (λ i v r e1 e2=>h (i+1) v r (by simpa using e1) (by simpa using e2)) λ r hr=>hne r (.tail _ hr)
  obtain ⟨a,its,rfl,⟨o,ho,hc,n,hd⟩,hi⟩:=h 0 v r rfl rfl
  have hr:=hne r (.head _)
  obtain ⟨its'⟩:=its
  cases hi with
  | nil=>exact absurd rfl hr
  | cons m t hi'=>exact ⟨_::fs,KatTups.cons (f:=.int m t) ho hc hd (by simp) k1,by simp [k2],λ f hf=>(Al.mp hf).elim (λ e=>⟨m,t,e⟩) (k3 f)⟩
theorem nH {rss:List (List Int)} {Q:SortKind->Shared->Prop} (h2:2<=vs.length) (hl:vs.length=rss.length) (ht:∀ (i:Nat) v r,vs[i]? = some v->rss[i]? = some r->∃ a its,v=.ref a/\IsTup s.heap a its/\IntsAre its.toList r) (hne:∀ r∈rss,r≠[])
  (h:Q (tuples' true) s):wpAny (model prog w) A (keyKind' vs.toArray) Q E s:=by
 obtain ⟨fs,k1,k2,k3⟩:=nG hl ht hne
 refine kat_kind (T:=BX "int") k1 (by lia) (λ v hv=>?_) rfl h
 obtain ⟨n,t,rfl⟩:=k3 v hv
 exact Looks.of_pure rfl
end
theorem fu (a:List Int):∀ b,aQ a b=true->aQ b a=false:=by
 induction a with
 | nil=>intro b h; cases b<;>first | rfl | cases h
 | cons x xs ih=>
  intro b h
  cases b with
  | nil=>cases h
  | cons y ys=>
   rw [bb] at h ⊢
   by_cases e:x=y
   ·rw [if_pos e] at h; rw [if_pos e.symm]; exact ih ys h
   ·rw [if_neg e] at h; rw [if_neg (AV e)]
    have:=of_decide_eq_true h
    exact decide_eq_false (by lia)
theorem gB (a:List Int):∀ b c,aQ a b=false->aQ b c=false->aQ a c=false:=by
 induction a with
 | nil=>
  intro b c h1 h2
  cases b with
  | nil=>exact h2
  | cons y ys=>cases h1
 | cons x xs ih=>
  intro b c h1 h2
  cases c with
  | nil=>rfl
  | cons z zs=>
   cases b with
   | nil=>cases h2
   | cons y ys=>
    rw [bb] at h1 h2 ⊢
    by_cases e:x=y
    ·subst e
     rw [if_pos rfl] at h1
     by_cases e2:x=z
     ·subst e2; rw [if_pos rfl] at h2 ⊢; exact ih ys zs h1 h2
     ·rw [if_neg e2] at h2 ⊢; exact h2
    ·rw [if_neg e] at h1
     have h1:=of_decide_eq_false h1
     by_cases e2:y=z
     ·subst e2; rw [if_neg e]; exact decide_eq_false h1
     ·rw [if_neg e2] at h2
      have h2:=of_decide_eq_false h2
      rw [if_neg (by lia)]; exact decide_eq_false (by lia)
theorem rc (rss:List (List Int)):Lt (λ i j=>aQ (rss.getD i []) (rss.getD j [])):=⟨λ i j h=>fu _ _ h,λ i j k h1 h2=>gB _ _ _ h1 h2⟩
end HT
namespace L2
open PySem PySem.Spec PyProof.Rows PySem.W
section
variable {X:Cx}
theorem gC:∀ {rs:List Addr} {us:List Value},Vals (rs.map HU) us->us=rs.map Aw
 | [],_,.nil=>rfl
 | _::_,_,.cons r t=>by
  rw [Bo,<-gC t]
  cases r
  rfl
theorem iI {f:Nat->V} {g:Nat->Value}:∀ {p:List Nat},(∀ i∈p,RelV (f i) (g i))->Vals (p.map f) (p.map g)
 | [],_=>.nil
 | i::p,h=>.cons (h i (.head _)) (iI λ j hj=>h j (.tail _ hj))
noncomputable def nI (K:Ae):List V->Hp->VK->Prop:=λ xs H Q=>∃ (l:Addr) (rs:List Addr) (rss:List (List Int)),xs=[.ref l]/\SqL K H l (rs.map HU)/\rs.length=rss.length/\rs.length<1000/\
 (∀ (i:Nat) a r,rs[i]? = some a->rss[i]? = some r->SqT K H a (r.map HR))/\((∀ r∈rss,r=[])\/(∀ r∈rss,r≠[]))/\
 ∀ (d:Addr) (p:List Nat),H d=none->p.Perm (As rs.length)->p.Pairwise (Ah λ i j=>HT.aQ (rss.getD i []) (rss.getD j []))->Q (.ref d) (upd H d (.lst (p.map λ i=>.ref (rs.getD i 0))))
theorem lV (hu:X.A.in1.in1.units<cLine):cY X (.builtin "sorted") (nI X.K):=by
 intro pins s σ H xs us Q I r h
 obtain ⟨l,rs,rss,rfl,hq,hlen,h64,ht,hw,q⟩:=h
 obtain ⟨u,rfl,rx⟩:=im r
 cases rx
 obtain ⟨its,r',pl,hz⟩:=I.list hq
 obtain rfl:=gC r'
 have hl:(rs.map Aw).length=rs.length:=Af _
 have tup:∀ (h':Heap),(∀ b o,s.heap.get? b=some o->h'.get? b=some o)->∀ (i:Nat) v r,(rs.map Aw)[i]? = some v->rss[i]? = some r->∃ a its,v=.ref a/\IsTup h' a its/\IntsAre its.toList r:=λ h' k i v r e1 e2=>by
  rw [Ak] at e1
  obtain ⟨a,ea,rfl⟩:=Be.mp e1
  obtain ⟨its,r1,⟨o,ho,hc⟩,_⟩:=I.tuple (ht i a r ea e2)
  exact ⟨a,its.toArray,rfl,⟨o,k _ _ ho,hc⟩,bn r1⟩
 have get:∀ i,i<(rs.map Aw).length->(rs.map Aw)[i]? = some ((rs.map Aw).getD i AT)/\rss[i]? = some (rss.getD i []):=λ i hi=>by
  have h2:i<rss.length:=by lia
  constructor
  ·rw [Ag,Ac hi]; rfl
  ·rw [Ag,Ac h2]; rfl
 have fin:∀ p:List Nat,p.Perm (As (rs.map Aw).length)->p.Pairwise (Ah λ i j=>HT.aQ (rss.getD i []) (rss.getD j []))->
   EP X pins σ Q (.ref (s.heap.objs.size+1)) { s with heap:=sortedAll s.heap (rs.map Aw) (Au (p.map λ i=>(rs.map Aw).getD i AT)) }:=λ p hp hs=>by
  obtain ⟨c,hc⟩:=sortedAll_at s.heap (rs.map Aw) (Au (p.map λ i=>(rs.map Aw).getD i AT))
  have hpl:=hp.length_eq
  rw [Cd,hl] at hpl
  rw [hl] at hp
  refine ⟨.ref (s.heap.objs.size+1),_,I.laid (t':=s.toks) (λ b o e=>sortedAll_old e) (BO _) (show ObjOk X.prog X.w _ _ _ (.lst (p.map λ i=>.ref (rs.getD i 0))) from ⟨?_,_,c,iI λ i hi=>?_,hc⟩),rfl,q _ p (I.hok.fresh (BO _)) hp hs⟩
  ·rw [Af,hpl,sizeLine_eq]; lia
  ·have hi':i<rs.length:=BD.mp (hp.mem_iff.mp hi)
   rw [Ag,Ag,Ak,Ac hi']
   rfl
 rcases hw with hw | hw
 ·refine HT.ft (κ:=oneType') pl.isList (by lia) (HT.rc rss) (λ h' Q' h2 k hQ=>HT.qe h2 (λ v hv=>?_) hQ) (λ h' i j Q' hi hj k hQ=>?_) fin
  ·obtain ⟨i,hi,ei⟩:=AS hv
   obtain ⟨g1,g2⟩:=get i hi
   obtain ⟨a,its,rfl,t,ti⟩:=tup h' k i v _ (by rw [Ac hi,ei]) g2
   rw [hw _ (Ax g2)] at ti
   obtain ⟨its'⟩:=its
   cases ti
   exact ⟨a,rfl,t⟩
  ·obtain ⟨g1,g2⟩:=get i hi
   obtain ⟨k1,k2⟩:=get j hj
   obtain ⟨a,its,e,t,ti⟩:=tup h' k i _ _ g1 g2
   obtain ⟨a',its',e',t',ti'⟩:=tup h' k j _ _ k1 k2
   rw [e,e']
   exact HT.tK hu t t' ti ti' hQ
 ·refine HT.ft (κ:=tuples' true) pl.isList (by lia) (HT.rc rss) (λ h' Q' h2 k hQ=>HT.nH h2 (by lia) (tup h' k) hw hQ) (λ h' i j Q' hi hj k hQ=>?_) fin
  obtain ⟨g1,g2⟩:=get i hi
  obtain ⟨k1,k2⟩:=get j hj
  obtain ⟨a,its,e,t,ti⟩:=tup h' k i _ _ g1 g2
  obtain ⟨a',its',e',t',ti'⟩:=tup h' k j _ _ k1 k2
  rw [e,e']
  exact HT.qd t t' ti ti' hQ
end
section
variable {X:Cx}
theorem qf {K:Ae} (hu:X.A.units+64<cLine) (hK:X.K=K:=by rfl):QC X (.builtin "sorted") (nI K):=by
 subst hK
 exact ⟨lV (show X.A.units+1+1<cLine by lia)⟩
end
end L2
namespace HT
open PySem PyProof.Rows PySem.W L2
section
variable {prog:Program} {w:World} {A:Around} {E:Value->Shared->Prop} {s:Shared}
end
end HT
namespace L2
open PySem PySem.Spec PyProof.Rows PySem.W
theorem qg {α:Type} (xs:List α) (d:α):(As xs.length).map (λ i=>xs.getD i d)=xs:=by
 apply FI
 ·simp
 ·intro i h1 h2
  simp [h2]
section
variable {X:Cx}
end
end L2
namespace L2
open PySem PySem.Spec PyProof.Rows
noncomputable def uH (x:V) (d:PyData):Prop:=(x=.non/\d=.none)\/(∃ b,x=.bl b/\d=.bool b)\/(∃ i:Int,x=.int i/\d=.int i/\i.natAbs<10 ^ 22)\/(∃ y,x=.str y/\d=.str y/\(He y).showable=true/\Bq 25 (.str y)=true)
theorem lW {x:V} {d:PyData} (h:uH x d) (n:Nat):d.showable=true/\d.hasDict=false/\d.depth<=n/\Bq 25 d=true:=by
 rcases h with ⟨rfl,rfl⟩ | ⟨b,rfl,rfl⟩ | ⟨i,rfl,rfl,hi⟩ | ⟨y,rfl,rfl,h1,h2⟩
 ·exact ⟨rfl,rfl,AC _,by decide +kernel⟩
 ·exact ⟨rfl,rfl,AC _,by cases b<;>decide +kernel⟩
 ·refine ⟨?_,rfl,AC _,?_⟩
  ·unfold Ek
   refine decide_eq_true ?_
   by_cases h0:i.natAbs=0
   ·rw [h0]; decide
   ·have:i.natAbs<2 ^ 80:=Ea hi (by decide)
    have:=(DD h0).mpr this
    lia
  ·unfold Bq
   refine decide_eq_true ?_
   have e:=int_text_length_le10 (k:=22) (by decide) hi
   show (Dr (toString i)).length<=25
   rw [CJ]; exact Bg e (by decide)
 ·exact ⟨h1,rfl,AC _,h2⟩
noncomputable def DatM:Nat->Hp->V->PyData->Prop
 | 0,_,x,d=>uH x d
 | n+1,H,x,d=>uH x d\/(∃ a xs ds,x=.ref a/\d=.list ds/\H a=some (.lst xs)/\xs.length=ds.length/\∀ (i:Nat) u e,xs[i]? = some u->ds[i]? = some e->DatM n H u e)\/
  (∃ a xs ds,x=.ref a/\d=.tuple ds/\H a=some (.tup xs)/\xs.length=ds.length/\∀ (i:Nat) u e,xs[i]? = some u->ds[i]? = some e->DatM n H u e)
theorem DatM.same {H H1:Hp} (s:Same H H1):∀ {n:Nat} {x:V} {d:PyData},DatM n H x d->DatM n H1 x d
 | 0,_,_,h=>h
 | n+1,_,_,h=>by
  rcases h with h | ⟨a,xs,ds,rfl,rfl,ha,hl,hi⟩ | ⟨a,xs,ds,rfl,rfl,ha,hl,hi⟩
  ·exact .inl h
  ·exact .inr (.inl ⟨a,xs,ds,rfl,rfl,s _ _ ha,hl,λ i u v e1 e2=>DatM.same s (hi i u v e1 e2)⟩)
  ·exact .inr (.inr ⟨a,xs,ds,rfl,rfl,s _ _ ha,hl,λ i u v e1 e2=>DatM.same s (hi i u v e1 e2)⟩)
theorem DatM.facts {H:Hp}:∀ {n:Nat} {x:V} {d:PyData},DatM n H x d->d.showable=true/\d.hasDict=false/\d.depth<=n/\Bq 25 d=true
 | n,x,d,h=>by
  have hint:uH x d->d.showable=true/\d.hasDict=false/\d.depth<=n/\Bq 25 d=true:=by
   intro h
   exact lW h n
  match n,h with
  | 0,h=>exact hint h
  | n+1,h=>
   rcases h with h | ⟨a,xs,ds,rfl,rfl,ha,hl,hi⟩ | ⟨a,xs,ds,rfl,rfl,ha,hl,hi⟩
   ·exact hint h
   ·have hd:∀ d∈ds,d.showable=true/\d.hasDict=false/\d.depth<=n/\Bq 25 d=true:=λ d hd=>by
     obtain ⟨i,e⟩:=CO hd
     have hlt:=aY e
     exact DatM.facts (hi i (xs[i]'(by lia)) d (Ac _) e)
    exact ⟨gu (P:=Ek) (PA:=E9) rfl (λ _ _=>rfl) λ d h=>(hd d h).1,dm λ d h=>(hd d h).2.1,Di (cI λ d h=>(hd d h).2.2.1),gu (P:=Bq 25) (PA:=EC 25) rfl (λ _ _=>rfl) λ d h=>(hd d h).2.2.2⟩
   ·have hd:∀ d∈ds,d.showable=true/\d.hasDict=false/\d.depth<=n/\Bq 25 d=true:=λ d hd=>by
     obtain ⟨i,e⟩:=CO hd
     have hlt:=aY e
     exact DatM.facts (hi i (xs[i]'(by lia)) d (Ac _) e)
    exact ⟨gu (P:=Ek) (PA:=E9) rfl (λ _ _=>rfl) λ d h=>(hd d h).1,dm λ d h=>(hd d h).2.1,Di (cI λ d h=>(hd d h).2.2.1),gu (P:=Bq 25) (PA:=EC 25) rfl (λ _ _=>rfl) λ d h=>(hd d h).2.2.2⟩
section
variable {X:Cx} {pins:List (Addr×Obj)} {σ:St} {H:Hp} {s:Shared}
theorem DatM.reads (I:Inv X pins σ H s):∀ {n:Nat} {x:V} {d:PyData} {v:Value},DatM n H x d->RelV x v->∃ as,Reads s.heap v d as
 | n,x,d,v,h,r=>by
  have hint:uH x d->∃ as,Reads s.heap v d as:=by
   rintro (⟨rfl,rfl⟩ | ⟨b,rfl,rfl⟩ | ⟨i,rfl,rfl,_⟩ | ⟨y,rfl,rfl,_⟩)
   ·cases r; exact ⟨_,.none⟩
   ·cases r; exact ⟨_,.bool b⟩
   ·obtain ⟨t,rfl⟩:=r; exact ⟨_,.int i t⟩
   ·obtain ⟨t,rfl⟩:=r; exact ⟨_,.str y t⟩
  match n,h with
  | 0,h=>exact hint h
  | n+1,h=>
   rcases h with h | ⟨a,xs,ds,rfl,rfl,ha,hl,hi⟩ | ⟨a,xs,ds,rfl,rfl,ha,hl,hi⟩
   ·exact hint h
   ·cases r
    obtain ⟨its,m,rv,ho,hz⟩:=I.lst ha
    obtain ⟨as,h1⟩:=cJ (R:=DatM n H) (λ x v d h r=>DatM.reads I h r) rv hl hi
    exact ⟨_,.list ho rfl rfl (by simpa using h1)⟩
   ·cases r
    obtain ⟨its,rv,⟨ob,ho,hc,m,hd⟩,hz⟩:=I.tuple (HQ ha)
    obtain ⟨as,h1⟩:=cJ (R:=DatM n H) (λ x v d h r=>DatM.reads I h r) rv hl hi
    exact ⟨_,.tuple ho hc hd (by simpa using h1)⟩
end
section
variable {κ:Type} [DecidableEq κ]
end
section
variable {P:Program} {w:World} {H:Hp} {h:Heap} {a:Addr}
end
section
variable {X:Cx} {pins:List (Addr×Obj)} {σ:St} {H:Hp} {s:Shared} {a:Addr} {y v:V} {u r:Value} {o:Option V} {A:Around} {E:Value->Shared->Prop}
end
section
variable {X:Cx} {pins:List (Addr×Obj)} {σ:St} {H:Hp} {s:Shared} {a:Addr} {kvs:List (Key×V)} {k:Key} {u:Value} {A:Around} {E:Value->Shared->Prop}
end
section
variable {X:Cx} {o i e value:Expr} {pos pos' tpos:Pos} {td ty tv:TE}
end
section
variable {X:Cx} {pos:Pos}
end
section
variable {X:Cx} {pins:List (Addr×Obj)} {σ:St} {H:Hp} {s:Shared} {a:Addr} {y d:V} {u r:Value} {o:Option V} {A:Around} {E:Value->Shared->Prop}
end
section
variable {X:Cx} {o e f:Expr} {apos cpos:Pos} {td ty tx:TE}
end
section
variable {X:Cx} {pins:List (Addr×Obj)} {σ:St} {H:Hp} {s:Shared} {a:Addr} {kvs:List (Key×V)} {A:Around} {E:Value->Shared->Prop}
end
section
variable {X:Cx} {pins:List (Addr×Obj)} {σ:St} {H:Hp} {s:Shared} {a:Addr} {y:V} {u:Value} {A:Around} {E:Value->Shared->Prop}
end
section
variable {X:Cx} {o i value:Expr} {td ty tv:TE} {pos pos':Pos}
end
noncomputable def itN (os:List Nat):Nat->Nat->Nat
 | 0,i=>i
 | k+1,i=>os.getD (itN os k i) 0
noncomputable def Rb (os:List Nat) (i j:Nat):Prop:=∃ k,j=itN os k i
noncomputable def sm (f:Nat->Nat):Nat->Nat
 | 0=>0
 | n+1=>sm f n+f n
noncomputable def wt (os:List Nat) (j:Nat):Nat:=if os.getD j 0=j then 0 else 1
noncomputable def yn (os:List Nat) (i j:Nat):Prop:=wt os j=1/\∃ a,a<i/\Rb os a j
open Classical in
noncomputable def sx (os:List Nat) (i j:Nat):Nat:=if yn os i j then 1 else 0
noncomputable def bk (at_:Nat) (s:y9):y9:=(s.1,s.2.1,if s.2.2<=at_ then s.2.2 else s.2.2 - 1)
end L2
namespace HT
open PySem PyProof.Rows PySem.W L2
section
variable {prog:Program} {w:World} {A:Around} {E:Value->Shared->Prop} {s:Shared} {a kS:Addr} {vs ks:List Value} {e e1:Nat} {P:Hv->Shared->Prop}
end
end HT
namespace L2
open PySem PySem.Spec PyProof.Rows PySem.W
section
variable {X:Cx} {N frs:List Str} {x qual:Str} {ix:List Nat} {scope:Scope} {cl:List (Str×Addr)} {A:Around} {f c' C:Addr}
end
section
variable {X:Cx} {N frs:List Str} {x:Str} {ix:List Nat} {scope:Scope} {cl:List (Str×Addr)} {A:Around} {cc P:Addr} {pins:List (Addr×Obj)} {σ:St} {H:Hp} {s:Shared} {params:Arguments} {body:Expr} {lpos:Pos}
section
variable {te:TE} {t:TA} {p p2 pos pos2 kpos:Pos} {e a:Expr} {k:Nat} {qual:Str}
end
end
section
variable {P:Program} {w:World} {K:Ae} {mg:Str->Option Value} {base:Heap}
end
section
variable {X:Cx} {o:Expr} {to:TE} {pos apos cpos:Pos}
end
end L2
namespace L2
open PySem PySem.Spec PyProof.Rows
section
variable {X:Cx}
end
section
variable {K:Ae} {H:Hp} {Q:VK}
end
theorem DatM.leaf {H:Hp} {x:V} {d:PyData} (h:uH x d):∀ {n:Nat},DatM n H x d
 | 0=>h
 | _+1=>.inl h
section
variable {H:Hp} {n w:Nat}
end
section
variable {H H1 H2:Hp}
end
section
variable {H H1:Hp} {p a:Addr} {o:HO}
end
section
variable {H H1:Hp} {x:V} {os:List Nat} {a:Addr} {xs:List V}
end
section
variable {rss:List (List Nat)} {f m l:Nat} {x y:List Nat}
end
section
variable {rss:List (List Nat)}
end
section
variable {X:Cx} {pos:Pos}
end
section
variable {X:Cx} {tg a b c:Expr} {t:TA} {p pos:Pos}
end
noncomputable def cs:Nat->List Nat->List Nat
 | f,[]=>[f]
 | f,a::r=>f::cs (f+a) r
end L2
namespace HT
open PySem PyProof.Rows PySem.W L2
noncomputable def DK (e:Addr) (dx:Option Addr) (h:Heap):Prop:=∃ o,h.get? e=some o/\o.dict=dx
structure KD {α:Type} (t:Sem α):Prop where
 out:∀ (M:Model) (Γ:PySem.Ctx) (P:α->Pos->Shared->Prop) (Ee:Value->Pos->Shared->Prop) (p:Pos) (s:Shared) (e:Addr) (dx:Option Addr),DK e dx s.heap->Sem.wp M Γ t P Ee p s->Sem.wp M Γ t (λ a p' s'=>P a p' s'/\DK e dx s'.heap) Ee p s
noncomputable def nJ (f:Obj->Obj):Prop:=∀ o,(f o).dict=o.dict/\(f o).isFreed=o.isFreed
theorem DK.upd {e:Addr} {dx:Option Addr} {f:Obj->Obj} (hf:nJ f) (d:DK e dx h):DK e dx (h.update a f):=by
 obtain ⟨o,he,hd⟩:=d
 by_cases q:a=e
 ·subst q
  exact ⟨_,BS f he (by rw [(hf o).2]; exact (Fa.mp he).2),by rw [(hf o).1]; exact hd⟩
 ·exact ⟨o,(CA _ _ q).trans he,hd⟩
theorem nK (g:Array Value->Array Value):nJ (Obj.mapFields g):=λ o=>by
 obtain ⟨c,d,da,sl⟩:=o
 cases da<;>exact ⟨rfl,rfl⟩
section
variable {α β:Type}
theorem KD.pure (a:α):KD (Gn a:Sem α):=⟨λ _ _ _ _ _ _ _ _ d h=>by rw [Sem.wp_pure'] at h ⊢; exact ⟨h,d⟩⟩
theorem KD.unsupported (w:String):KD (PySem.unsupported w:Sem α):=⟨λ _ _ _ _ _ _ _ _ d h=>h.elim⟩
theorem KD.bind {m:Sem α} {f:α->Sem β} (hm:KD m) (hf:∀ a,KD (f a)):KD (m >>= f):=⟨λ M Γ P Ee p s e dx d h=>by
 rw [Sem.wp_bind'] at h ⊢
 exact Sem.wp_mono M Γ m (λ a p' s' h'=>(hf a).out M Γ P Ee p' s' e dx h'.2 h'.1) (λ _ _ _ x=>x) p s (hm.out M Γ _ Ee p s e dx d h)⟩
theorem KD.ite {c:Prop} [Decidable c] {t u:Sem α} (ht:KD t) (hu:KD u):KD (if c then t else u):=by split<;>assumption
theorem KD.load (a:Addr):KD (Hf a):=⟨λ _ _ _ _ _ _ _ _ d h=>by
 unfold Hf at h ⊢
 rw [Sem.wp_load] at h ⊢
 obtain ⟨o,ho,h⟩:=h
 refine ⟨o,ho,?_⟩
 rw [Es] at h ⊢
 exact ⟨h,d⟩⟩
theorem KD.update (a:Addr) (f:Obj->Obj) (hf:nJ f):KD (GZ a f):=⟨λ _ _ _ _ _ _ _ _ d h=>by
 unfold GZ at h ⊢
 rw [Sem.wp_update] at h ⊢
 refine ⟨h.1,?_⟩
 have h:=h.2
 rw [Es] at h ⊢
 exact ⟨h,d.upd hf⟩⟩
theorem KD.stack:KD Ha:=⟨λ M Γ P Ee p s _ _ d h=>by
 unfold Ha at h ⊢
 rw [Sem.wp_stack] at h ⊢
 rw [Es] at h ⊢
 exact ⟨h,d⟩⟩
theorem KD.alloc (o:Obj):KD (Hb o):=⟨λ _ _ _ _ _ _ _ _ d h=>by
 unfold Hb at h ⊢
 rw [Sem.wp_alloc] at h ⊢
 rw [Es] at h ⊢
 obtain ⟨o',he,hd⟩:=d
 exact ⟨h,o',Aj _ he,hd⟩⟩
theorem KD.field (v:Value) (i:Nat):KD (DE v i):=⟨λ _ Γ P Ee p s _ _ d h=>by
 rw [wp_field_iff] at h ⊢
 obtain ⟨a,o,vs,x,e1,e2,e3,e4,h⟩:=h
 exact ⟨a,o,vs,x,e1,e2,e3,e4,h,d⟩⟩
theorem KD.setField (v:Value) (i:Nat) (x:Value):KD (PySem.setField v i x):=⟨λ _ Γ P Ee p s _ _ d h=>by
 rw [wp_setField_iff] at h ⊢
 obtain ⟨a,o,vs,e1,e2,e3,e4,h⟩:=h
 exact ⟨a,o,vs,e1,e2,e3,e4,h,d.upd (nK _)⟩⟩
end
theorem fv (env:Env) (outer:List Env):KD (behindIsImport env outer):=by
 unfold behindIsImport
 repeat' with_reducible first | assumption | exact KD.pure _ | exact KD.unsupported _ | exact KD.field _ _ | exact KD.setField _ _ _ | exact KD.load _ | exact KD.stack | exact KD.alloc _ | apply KD.ite | apply KD.bind | intro _ | split
theorem dq:KD underTheClaimsCaller:=by
 unfold underTheClaimsCaller
 repeat' with_reducible first | assumption | exact KD.pure _ | exact KD.unsupported _ | exact KD.field _ _ | exact KD.setField _ _ _ | exact KD.load _ | exact KD.stack | exact KD.alloc _ | apply KD.ite | apply KD.bind | intro _ | split
theorem jY (env:Env) (i:Bool) (l:List Env):KD (keptBack env i l):=by
 have:=dq
 cases l<;>unfold keptBack<;>repeat' with_reducible first | assumption | exact KD.pure _ | exact KD.unsupported _ | exact KD.field _ _ | exact KD.setField _ _ _ | exact KD.load _ | exact KD.stack | exact KD.alloc _ | apply KD.ite | apply KD.bind | intro _ | split
theorem eG:∀ l:List Env,KD (readyFrames l)
 | []=>KD.pure _
 | env::outer=>by
  have ih:=eG outer
  have h1:=fv env outer
  have h2:=λ i=>jY env i outer
  unfold readyFrames
  repeat' with_reducible first | assumption | exact KD.pure _ | exact KD.unsupported _ | exact KD.field _ _ | exact KD.setField _ _ _ | exact KD.load _ | exact KD.stack | exact KD.alloc _ | exact h2 _ | apply KD.ite | apply KD.bind | apply KD.update | intro _ | split
  all_goals (intro o; obtain ⟨c,d,da,sl⟩:=o; cases da<;>exact ⟨rfl,rfl⟩)
theorem gU (l:List Env):KD (frameObject l):=by
 cases l with
 | nil=>exact KD.pure _
 | cons env outer=>
  have:=eG (env::outer)
  unfold frameObject
  repeat' with_reducible first | assumption | exact KD.pure _ | exact KD.unsupported _ | exact KD.field _ _ | exact KD.setField _ _ _ | exact KD.load _ | exact KD.stack | exact KD.alloc _ | apply KD.ite | apply KD.bind | intro _ | split
theorem ju:KD frameEnvs:=by
 unfold frameEnvs
 repeat' with_reducible first | assumption | exact KD.pure _ | exact KD.unsupported _ | exact KD.field _ _ | exact KD.setField _ _ _ | exact KD.load _ | exact KD.stack | exact KD.alloc _ | apply KD.ite | apply KD.bind | intro _ | split
theorem lX (env:Env):KD (Gu env):=by
 have h1:=ju
 have h2:=gU
 unfold Gu
 repeat' with_reducible first | assumption | exact KD.pure _ | exact KD.unsupported _ | exact KD.field _ _ | exact KD.setField _ _ _ | exact KD.load _ | exact KD.stack | exact KD.alloc _ | exact h2 _ | apply KD.ite | apply KD.bind | intro _ | split
theorem gD (f:Addr) (hadNext:Bool):KD (entryPlaceOf f hadNext):=by
 unfold entryPlaceOf
 repeat' with_reducible first | assumption | exact KD.pure _ | exact KD.unsupported _ | exact KD.field _ _ | exact KD.setField _ _ _ | exact KD.load _ | exact KD.stack | exact KD.alloc _ | apply KD.ite | apply KD.bind | intro _ | split
theorem jZ (a b c d e:Value) (l:List Value):KD (EV a b c d e l):=by
 unfold EV newFields newObj newObjAsIs
 repeat' with_reducible first | assumption | exact KD.pure _ | exact KD.unsupported _ | exact KD.field _ _ | exact KD.setField _ _ _ | exact KD.load _ | exact KD.stack | exact KD.alloc _ | apply KD.ite | apply KD.bind | intro _ | split
theorem dR (e:Value) (f:Option Addr):KD (setFlight e f):=by
 unfold setFlight
 repeat' with_reducible first | assumption | exact KD.pure _ | exact KD.unsupported _ | exact KD.field _ _ | exact KD.setField _ _ _ | exact KD.load _ | exact KD.stack | exact KD.alloc _ | apply KD.ite | apply KD.bind | intro _ | split
theorem dS (e:Value) (env:Env):KD (noteFrame e env):=by
 have h1:=lX
 have h2:=gD
 have h3:=jZ
 unfold noteFrame
 repeat' with_reducible first | assumption | exact KD.pure _ | exact KD.unsupported _ | exact KD.field _ _ | exact KD.setField _ _ _ | exact KD.load _ | exact KD.stack | exact KD.alloc _ | exact h1 _ | exact h2 _ _ | exact h3 _ _ _ _ _ _ | apply KD.ite | apply KD.bind | intro _ | split
theorem ii (env:Env) (e:Value):KD (leaving env e):=by
 unfold leaving
 exact (dS e env).bind λ _=>dR e _
theorem KD.any {α:Type} {t:Sem α} (k:KD t) {M:Model} {A:Around} {Q:α->Shared->Prop} {E:Value->Shared->Prop} {s:Shared} {e:Addr} {dx:Option Addr} (d:DK e dx s.heap) (h:wpAny M A t Q E s):wpAny M A t (λ a s'=>Q a s'/\DK e dx s'.heap) E s:=
 λ Γ p hΓ=>k.out M Γ _ _ p s e dx d (h Γ p hΓ)
end HT
namespace L2
open PySem PySem.Spec PyProof.Rows
theorem ObjOk.there {w:World} {H:Hp} (x:ObjOk P w H h a o):∃ ob,h.get? a=some ob:=by
 cases o with
 | lst xs=>obtain ⟨_,_,_,_,e⟩:=x; exact ⟨_,e⟩
 | tup xs=>obtain ⟨_,_,_,ob,e,_⟩:=x; exact ⟨ob,e⟩
 | dK kvs=>obtain ⟨_,_,_,_,o,_,_,e,_⟩:=x; exact ⟨_,e⟩
 | dT kvs=>obtain ⟨_,_,_,_,o,_,_,e,_⟩:=x; exact ⟨_,e⟩
 | set S n=>obtain ⟨o,_,_,_,e,_⟩:=x; exact ⟨_,e⟩
 | ins C dx fs=>obtain ⟨_,_,_,e,_⟩:=x; exact ⟨_,e⟩
 | own y=>obtain ⟨_,e⟩:=x; exact ⟨_,e⟩
 | xd fs=>obtain ⟨_,⟨_,_,_,e,_⟩,_⟩:=x; exact ⟨_,e⟩
 | rng lo hi=>obtain ⟨_,_,_,e⟩:=x; exact ⟨_,e⟩
 | frz ob u=>obtain ⟨e,_⟩:=x; exact ⟨_,e⟩
 | tbl ps=>exact ⟨_,(show h.get? a=some _ from x)⟩
 | met f y=>exact ⟨_,(show h.get? a=some _ from x)⟩
 | ext φ=>obtain ⟨_,⟨_,e⟩,_⟩:=x; exact ⟨_,e⟩
noncomputable def Fl (e C:Addr) (H:Hp) (h0 h:Heap):Prop:=
 ∃ oe vs T oT ts a0,h.get? e=some oe/\oe.cls=.ref C/\oe.data=.fields vs/\vs[0]? = some a0/\vs[1]? = some (.ref T)/\T≠e/\h.get? T=some oT/\oT.data=.fields ts/\ts[3]? = some .none/\
  H e=none/\H T=none/\h0.get? e=none/\h0.get? T=none
noncomputable def Dko (e:Addr) (d:Option Addr) (h:Heap):Prop:=match d with | none=>True | some dx=>HT.DK e (some dx) h
noncomputable def CXE (P:Program) (w:World):CXT:=λ outer H s E ev s'=>∃ e C d H',ev=.ref e/\s'.os=s.os/\AllBare s'.gens/\Un (frs outer) [] H H' s.heap s'.heap/\HOk P w H' s'.heap/\Fl e C H' s.heap s'.heap/\Dko e d s'.heap/\E (.ref C) d H'
noncomputable def gW (e C:Addr) (d:Option Addr:=none):HO:=.ext λ h=>∃ o vs,h.get? e=some o/\o.cls=.ref C/\o.data=.fields vs/\∀ dx,d=some dx->o.dict=some dx
theorem tL {w:World} {H:Hp} {e:Addr} {d:Option Addr} {o:Obj} {vs:Array Value} (he:h.get? e=some o) (hc:o.cls=.ref C) (hd:o.data=.fields vs) (hx:Dko e d h):ObjOk P w H h e (gW e C d):=
 ⟨⟨o,vs,he,hc,hd,λ dx q=>by subst q; obtain ⟨o',h',q⟩:=(show HT.DK e (some dx) h from hx); rw [he] at h'; cases h'; exact q⟩,⟨o,he⟩,λ h1 h2 ⟨o,vs,a,b,c,q⟩ k=>⟨o,vs,k _ a,b,c,q⟩⟩
section
variable {X:Cx} {pins:List (Addr×Obj)} {σ:St} {H:Hp} {s:Shared} {h':Heap}
theorem Inv.slip {hid:List Addr} (I:Inv X pins σ H s) (hex:X.ex=[]) (hB:∀ b o,s.heap.get? b=some o->b∉hid->h'.get? b=some o) (hs:s.heap.UpToSlots h')
  (hh:∀ b∈hid,b∈frs X.stack\/(H b=none/\X.s₀.heap.get? b=none/\∀ p∈X.pn++pins,p.1≠b)):Inv X pins σ H { s with heap:=h',toks:=t' }:=by
 have neL:∀ b o,X.s₀.heap.get? b=some o->b≠X.env.locals:=λ b o e=>AB (AA (Am e) I.ok.above)
 have frU:∀ b∈frs X.stack,∀ o,s.heap.get? b=some o->∃ sl,h'.get? b=some { o with slots:=sl }:=λ b hb o e=>by
  obtain ⟨_,o',ho',hd⟩:=I.stack.mem hb
  rw [e] at ho'; cases ho'
  exact hs b o e hd
 have cellK:∀ c v,s.heap.IsCell c v->h'.IsCell c v:=λ c v ⟨o,ho,hd⟩=>by
  obtain ⟨sl,q⟩:=hs c o ho λ vs z=>by rw [hd] at z; cases z
  exact ⟨_,q,hd⟩
 refine ⟨I.ok,I.os,I.bare,⟨λ b o e n hb hx=>?_,λ b o e n hb hx=>?_,I.base.free,λ b o e hx=>?_,I.base.tups,I.base.frzs,I.base.tbls⟩,?_,λ x c e=>?_,I.free,I.freeC,λ p hp=>?_,λ b u e=>?_,I.len⟩
 ·refine hB b o (I.base.keep b o e n hb hx) λ z=>?_
  rcases hh b z with z | ⟨_,z,_⟩
  ·rcases Al.mp (I.stkSub b z) with z | z
   ·exact neL b o e z
   ·exact hb z
  ·rw [z] at e; cases e
 ·obtain ⟨sl,e1⟩:=I.base.slot b o e n hb hx
  obtain ⟨_,o',ho',hd⟩:=I.funs.mem hb
  rw [e1] at ho'; cases ho'
  obtain ⟨sl2,q⟩:=hs b _ e1 hd
  exact ⟨sl2,q⟩
 ·obtain ⟨o',e1⟩:=I.base.there b o e hx
  by_cases z:b∈hid
  ·rcases hh b z with z | ⟨_,z,_⟩
   ·obtain ⟨sl,q⟩:=frU b z o' e1
    exact ⟨_,q⟩
   ·rw [z] at e; cases e
  ·exact ⟨o',hB b o' e1 z⟩
 ·obtain ⟨m,hn,hl⟩:=I.loc
  refine ⟨m,hs.ns hn,λ i x v e1 e2 e3=>?_⟩
  obtain ⟨u,r,l⟩:=hl i x v e1 e2 e3
  refine ⟨u,r,?_⟩
  rcases l with l | ⟨k,c,e,z⟩
  ·exact .inl l
  ·exact .inr ⟨k,c,e,cellK c _ z⟩
 ·obtain ⟨v,z⟩:=I.cell x c e
  exact ⟨v,cellK c v z⟩
 ·obtain ⟨e,n,ne,nf,d⟩:=I.pin p hp
  refine ⟨hB _ _ e λ z=>?_,n,ne,nf,d⟩
  rcases hh _ z with z | ⟨_,_,z⟩
  ·rcases Al.mp (I.stkSub _ z) with z | z
   ·exact ne z
   ·exact nf z
  ·exact z p hp rfl
 ·have nh:∀ c v,H c=some v->c∉hid:=λ c v ec z=>by
   rcases hh c z with z | ⟨z,_⟩
   ·rw [I.stkFree c z] at ec; cases ec
   ·rw [z] at ec; cases ec
  refine (I.hok b u e).stay (λ c v hc q=>hB c v q ?_) (λ _ q=>q) λ _ _ q=>q
  rcases hc with rfl | z
  ·exact nh _ _ e
  ·exact nh _ _ z
theorem Inv.track {e:Addr} {oe:Obj} {vs:Array Value} (I:Inv X pins σ H s) (he:s.heap.get? e=some oe) (hd:oe.data=.fields vs) (hn:H e=none) (h0:X.s₀.heap.get? e=none) (hp:∀ p∈X.pn++pins,p.1≠e)
  (new:ObjOk X.prog X.w (upd H e o) s.heap e o):Inv X pins σ (upd H e o) s:=by
 have neL:X.env.locals≠e:=λ z=>by
  obtain ⟨m,⟨o',es,ep,ho',hd',_⟩,_⟩:=I.loc
  rw [z,he] at ho'; cases ho'; rw [hd] at hd'; cases hd'
 have neT:∀ b u,H b=some u->b≠e:=λ b u q z=>by rw [z,hn] at q; cases q
 refine ⟨I.ok,I.os,I.bare,⟨I.base.keep,I.base.slot,λ b ob q n hx=>?_,I.base.there,λ b xs q=>?_,λ b ob u q=>?_,λ b ps q=>?_⟩,I.loc,I.cell,?_,λ x c q=>?_,λ p hp'=>?_,λ b u q=>?_,I.len⟩
 ·rw [aj (λ z=>by rw [z,h0] at q; cases q)]; exact I.base.free b ob q n hx
 ·have z:=I.base.tups b xs q
  rw [aj (neT _ _ z)]; exact z
 ·have z:=I.base.frzs b ob u q
  rw [aj (neT _ _ z)]; exact z
 ·obtain ⟨more,z⟩:=I.base.tbls b ps q
  exact ⟨more,by rw [aj (neT _ _ z)]; exact z⟩
 ·rw [aj neL]; exact I.free
 ·rw [aj (λ z=>?_)]
  ·exact I.freeC x c q
  ·obtain ⟨v,o',ho',hd'⟩:=I.cell x c q
   rw [z,he] at ho'; cases ho'; rw [hd] at hd'; cases hd'
 ·obtain ⟨a1,a2,a3⟩:=I.pin p hp'
  exact ⟨a1,by rw [aj (hp p hp')]; exact a2,a3⟩
 ·by_cases hb:b=e
  ·subst hb; rw [aa] at q; cases q; exact new
  ·rw [aj hb] at q
   exact (I.hok b u q).stay (λ _ _ _ z=>z) (λ c z=>by rw [aj (neT _ _ z)]; exact z) λ c xs z=>by rw [aj (neT _ _ z)]; exact z
end
noncomputable abbrev XW:=Addr->Option Addr->St->Hp->Prop
noncomputable abbrev TX:=Ends->XW->St->Hp->Prop
noncomputable def zQ (X:Cx) (pins:List (Addr×Obj)) (e C:Addr) (H:Hp) (h:Heap):Prop:=
 ∃ oe vs a0,h.get? e=some oe/\oe.cls=.ref C/\oe.data=.fields vs/\vs[0]? = some a0/\vs[1]? = some .none/\H e=none/\X.s₀.heap.get? e=none/\∀ p∈X.pn++pins,p.1≠e
noncomputable def XP (X:Cx) (pins:List (Addr×Obj)) (Ex:XW) (ev:Value) (s':Shared):Prop:=
  ∃ e C d σ' H',ev=.ref e/\Ex C d σ' H'/\
    ((d=none/\∃ s0 vs,Inv X pins σ' H' s0/\Heap.MadeExcOf s0.heap s'.heap e (.ref C) vs/\s'={ s0 with heap:=s'.heap })\/
     (Dko e d s'.heap/\Inv X pins σ' H' s'/\∃ hb:Heap,Fl e C H' hb s'.heap/\(∀ b o,X.s₀.heap.get? b=some o->∃ o',hb.get? b=some o')/\∀ p∈X.pn++pins,∃ o',hb.get? p.1=some o')\/
     (Dko e d s'.heap/\Inv X pins σ' H' s'/\zQ X pins e C H' s'.heap))
theorem XP.mono {Ex Ex':XW} (k:∀ C d σ H,Ex C d σ H->Ex' C d σ H) {ev:Value} (h:XP X pins Ex ev s'):XP X pins Ex' ev s':=by
 obtain ⟨e,C,d,σ',H',a,b,c⟩:=h
 exact ⟨e,C,d,σ',H',a,k _ _ _ _ b,c⟩
structure QX (X:Cx) (st:Stmt) (t:TX):Prop where
 out:∀ (pins:List (Addr×Obj)) (s:Shared) (σ:St) (H:Hp) (D:Ends) (Ex:XW),Inv X pins σ H s->t D Ex σ H->wpAny (model X.prog X.w) X.A (exec st X.env) (SP X pins D) (XP X pins Ex) s
structure QXs (X:Cx) (sts:List Stmt) (t:TX):Prop where
 out:∀ (pins:List (Addr×Obj)) (s:Shared) (σ:St) (H:Hp) (D:Ends) (Ex:XW),Inv X pins σ H s->t D Ex σ H->wpAny (model X.prog X.w) X.A (execs sts X.env) (SP X pins D) (XP X pins Ex) s
noncomputable abbrev TEX:=St->Hp->VK->(Addr->Option Addr->Hp->Prop)->Prop
structure QEX (X:Cx) (e:Expr) (t:TEX):Prop where
 out:∀ (pins:List (Addr×Obj)) (s:Shared) (σ:St) (H:Hp) (Q:VK) (Ex:Addr->Option Addr->Hp->Prop),Inv X pins σ H s->t σ H Q Ex->wpAny (model X.prog X.w) X.A (eval e X.env) (EP X pins σ Q) (XP X pins λ C d σ' H'=>σ'=σ/\Ex C d H') s
section
variable {X:Cx} {st:Stmt} {sts s1 s2:List Stmt} {T1 T2:TX} {c e:Expr} {es:List Expr} {tA:TT} {te:TE} {t:TA} {pos p:Pos} {x:Str} {i:Nat}
noncomputable def xOf (t:TS):TX:=λ D _ σ H=>t D σ H
theorem kJ {t:TS} (h:QB X sts t) (hx:∀ e s,X.xe e s->False:=by intro _ _ z; exact z):QXs X sts (xOf t):=⟨λ pins s σ H D Ex I q=>wpAny_mono (h.out pins s σ H D I q) (λ _ _ z=>z) λ e s z=>(hx e s z).elim⟩
noncomputable def za (t u:TX):TX:=λ D Ex σ H=>t { D with nx:=u D Ex } Ex σ H
theorem kK (h1:QX X st T1) (h2:QXs X sts T2):QXs X (st::sts) (za T1 T2):=⟨by
 intro pins s σ H D Ex I h
 refine wpAny_execs_cons (thn (h1.out pins s σ H { D with nx:=T2 D Ex } Ex I h) λ f s1 q=>?_)
 cases f with
 | next=>
  obtain ⟨σ',H',I',q⟩:=q
  exact h2.out pins s1 σ' H' D Ex I' q
 | ret v=>exact q
 | brk=>exact q
 | cont=>exact q⟩
theorem eN (h1:QX X st T1):QXs X [st] T1:=⟨by
 intro pins s σ H D Ex I h
 refine wpAny_execs_cons (thn (h1.out pins s σ H D Ex I h) λ f s1 q=>?_)
 cases f with
 | next=>exact wpAny_execs_nil q
 | ret v=>exact q
 | brk=>exact q
 | cont=>exact q⟩
noncomputable def xIf (c:TT) (t u:TX):TX:=λ D Ex σ H=>c σ H λ b H1=>if b=true then t D Ex σ H1 else u D Ex σ H1
theorem tN (hc:QT X c tA) (ha:QXs X s1 T1) (hb:QXs X s2 T2) (hx:∀ e s,X.xe e s->False:=by intro _ _ z; exact z):QX X (.If c s1 s2 pos) (xIf tA T1 T2):=⟨by
 intro pins s σ H D Ex I h
 refine wpAny_If (wpAny_mono (hc.out pins s σ H _ I h) (λ d s1 ⟨H1,I1,q1⟩=>?_) λ e s z=>(hx e s z).elim)
 cases d with
 | true=>exact ha.out pins s1 σ H1 D Ex I1 q1
 | false=>exact hb.out pins s1 σ H1 D Ex I1 q1⟩
noncomputable def v5 (te:TEX):TX:=λ D Ex σ H=>te σ H (λ _ H1=>D.nx σ H1) λ C d H1=>Ex C d σ H1
noncomputable def zb (i:Nat) (te:TEX):TX:=λ D Ex σ H=>te σ H (λ v H1=>D.nx (σ.set i (some v)) H1) λ C d H1=>Ex C d σ H1
variable {tx:TEX}
theorem xpX {Ex:XW} {ev:Value} {s:Shared} (h:XP X pins (λ C d σ' H'=>σ'=σ/\Ex C d σ H') ev s):XP X pins Ex ev s:=h.mono λ C d σ' H' ⟨a,b⟩=>a▸b
theorem nL (he:QEX X e tx) (hs:swapsWith e none pos.line X.env=pure false:=by rfl):QX X (.Expr e pos) (v5 tx):=⟨by
 intro pins s σ H D Ex I h
 exact wpAny_Expr_any (wpAny_mono (he.out pins s σ H _ _ I h) (λ v s1 ⟨x,H1,I1,r1,q1⟩=>⟨σ,H1,I1,q1⟩) λ _ _ z=>xpX z) I.quiet hs⟩
theorem re {pos':Pos} (hN:X.N.Nodup) (hi:X.N[i]? = some x) (hx:Loc X.env.scope x) (he:QEX X e tx) (hs:swapsWith e (some (.Name x pos')) pos.line X.env=pure false:=by rfl) (hf:X.fn x=true\/X.env.scope.names.lookup x=some .local:=by first | exact .inl rfl | exact .inr rfl | assumption) :
  QX X (.Assign [.Name x pos'] e pos) (zb i tx):=⟨by
 intro pins s σ H D Ex I h
 refine wpAny_Assign_Name (wpAny_mono (he.out pins s σ H _ _ I h) (λ v s1 ⟨y,H1,I1,r1,q1⟩=>?_) λ _ _ z=>xpX z) hs
 exact di I1 hN hi hx r1 (λ s2 I2=>⟨_,H1,I2,q1⟩) hf⟩
noncomputable def wa (sp:Sp) (t:TA):TEX:=λ σ H Q Ex=>t σ H λ vs H1=>sp vs H1 Q λ c d H2=>∃ C,c=.ref C/\Ex C d H2
theorem tO {fd:FuncData} {ps:List Str} {sp:Sp} {H:Hp} {s:Shared} {Q:VK} {Ex:Addr->Option Addr->Hp->Prop} {vs:List V} (F:FnOk X.prog X.w X.K X.mg X.base (CXE X.prog X.w) k f fd ps sp) (hr:Room k X.A) (hb:Binds X.K fd ps []) (hex:X.ex=[])
  (I:Inv X pins σ H s) (r:Vals vs us) (h:sp vs H Q λ c d H2=>∃ C,c=.ref C/\Ex C d H2):wpAny (model X.prog X.w) X.A (call (.ref f) us) (EP X pins σ Q) (XP X pins λ C d σ' H'=>σ'=σ/\Ex C d H') s:=by
 have hl:(us++[]).length=ps.length:=by rw [B8,<-r.length]; exact F.len _ _ _ _ h
 refine wpAny_call (codeAny_mono (F.run X.A X.stack s H ⟨us,[]⟩ us vs Q _ hr I.env0 (by have:=hb s us I.kIn hl; rwa [B8] at this) r h) λ r s' hq=>?_)
 cases r with
 | error e=>
  obtain ⟨ea,C,d0,H',rfl,os,bare,un,hok,fl,dk,C',hC,q⟩:=hq
  cases hC
  have I':Inv X pins σ H' s':=by
   obtain ⟨hh,g,d,t,os'⟩:=s'
   obtain rfl:os'=s.os:=os
   exact I.call (h':=hh) (g':=g) (d':=d) (t':=t) (ch:=[]) un hok bare (λ b z=>absurd z (by simp))
  refine ⟨ea,C,d0,σ,H',rfl,⟨rfl,q⟩,.inr (.inl ⟨dk,I',s.heap,fl,λ b o z=>I.base.there b o z (by rw [hex]; simp),λ p hp=>⟨_,(I.pin p hp).1⟩⟩)⟩
 | ok fl=>
  cases fl with
  | ret u=>exact I.after hq
  | next=>exact A7 hq
  | brk=>exact A7 hq
  | cont=>exact A7 hq
theorem kL {fd:FuncData} {ps:List Str} {sp:Sp} (F:FnOk X.prog X.w X.K X.mg X.base (CXE X.prog X.w) k f fd ps sp) (hr:Room k X.A) (hg:Gl X x) (hm:X.mg x=some (.ref f)) (hk:Bv X.K (.ref f)=true) (hb:Binds X.K fd ps [])
  (ha:QA X (e::es) t) (hn:(e::es).all cA=true:=by rfl) (hdb:(x == ("__debug__" : Str))=false:=by decide) (hex:X.ex=[]:=by rfl) (hx:∀ e s,X.xe e s->False:=by intro _ _ z; exact z):QEX X (.Call (.Name x p) (e::es) [] pos) (wa sp t):=⟨by
 rw [B9,AZ] at hn
 intro pins s σ H Q Ex I h
 refine wpAny_Call_Name_kw (dL I hg hm ?_ hdb)
 refine B6 (h₀:=X.base) I.ok.mod.kin hk (wpAny_mono (ha.out pos pins s σ H _ I h) (λ us s1 ⟨vs,H1,I1,r,q⟩=>⟨I1.kIn,?_⟩) λ e s z=>(hx e s z).elim) (aB hn.1) (dj hn.2)
 exact tO F hr hb hex I1 r q⟩
end
section
variable {X:Cx} {pins:List (Addr×Obj)} {σ:St} {H:Hp} {s:Shared} {h':Heap}
theorem Inv.unseen {hid:List Addr} (I:Inv X pins σ H s) (hex:X.ex=[]) (hn:(Cy s.heap hid).get? b=none)
  (hh:∀ c∈hid,c∈frs X.stack\/(H c=none/\X.s₀.heap.get? c=none/\∀ p∈X.pn++pins,p.1≠c))
  (hf:b∈frs X.stack->b=X.env.locals):H b=none/\X.s₀.heap.get? b=none/\(b∉frs X.stack->∀ p∈X.pn++pins,p.1≠b):=by
 refine ⟨?_,?_,λ hb p hp z=>?_⟩
 ·cases q:H b with
  | none=>rfl
  | some u=>
   obtain ⟨ob,e⟩:=(I.hok b u q).there
   have:=BM hid e λ z=>by
    rcases hh b z with z | ⟨z,_⟩
    ·rw [I.stkFree b z] at q; cases q
    ·rw [z] at q; cases q
   rw [hn] at this; cases this
 ·cases q:X.s₀.heap.get? b with
  | none=>rfl
  | some o=>
   obtain ⟨o',e⟩:=I.base.there b o q (by rw [hex]; simp)
   have:=BM hid e λ z=>by
    rcases hh b z with z | ⟨_,z,_⟩
    ·have:=hf z
     exact absurd (AA (Am q) I.ok.above) (by rw [this]; exact BC _)
    ·rw [z] at q; cases q
   rw [hn] at this; cases this
 ·obtain ⟨e,n,ne,nf,d⟩:=I.pin p hp
  have:=BM hid e λ z=>by
   rcases hh _ z with z' | ⟨_,_,z'⟩
   ·rcases Al.mp (I.stkSub _ z') with z | z
    ·exact ne z
    ·exact nf z
   ·exact z' p hp rfl
  rw [z,hn] at this; cases this
theorem Dko.any {α:Type} {t:Sem α} (k:HT.KD t) {M:Model} {A:Around} {Q:α->Shared->Prop} {E:Value->Shared->Prop} {s:Shared} {e:Addr} {d:Option Addr} (hd:Dko e d s.heap) (h:wpAny M A t Q E s):wpAny M A t (λ a s'=>Q a s'/\Dko e d s'.heap) E s:=by
 cases d with
 | none=>exact wpAny_mono h (λ _ _ z=>⟨z,trivial⟩) λ _ _ z=>z
 | some dx=>exact k.any hd h
theorem XP.leave {w:World} {K:Ae} {mg:Str->Option Value} {base:Heap} {N:List Str} {cd:Value} {A:Around} {outer:List Env} {s0:Shared} {H0:Hp} {E:XK} {ev:Value} 
  (h:XP (gP (CXE P w) P w K mg base N qual scope f cd A outer s0 H0 E).nox pins (λ C d _ H'=>E (.ref C) d H') ev s') :
  (gP (CXE P w) P w K mg base N qual scope f cd A outer s0 H0 E).xe ev s':=by
 obtain ⟨e,C,dd,σ',H',rfl,q,h⟩:=h
 show wpAny (model P w) (A.deeper (envOfC qual scope s0.heap.objs.size f cd)) (leaving (envOfC qual scope s0.heap.objs.size f cd) (.ref e)) _ _ s'
 rcases h with ⟨rfl,s1,vs,I,hm,es⟩ | ⟨dk,I,hb,fl,c1,c2⟩ | ⟨dk,I,oe,ws,a0,he,hc,hd,h0,h1,e1,e2,e3⟩
 ·have I:=I.unwish
  have hfr:(A.deeper (envOfC qual scope s0.heap.objs.size f cd)).frames=some (envOfC qual scope s0.heap.objs.size f cd::outer):=I.ok.frames
  have hin:∀ env∈(envOfC qual scope s0.heap.objs.size f cd::outer),∀ b,env.frame=some b->b∈frs (envOfC qual scope s0.heap.objs.size f cd::outer):=λ env he b hb=>Bi.mpr ⟨env,he,hb⟩
  have hh:∀ c∈frs (envOfC qual scope s0.heap.objs.size f cd::outer),c∈frs (envOfC qual scope s0.heap.objs.size f cd::outer)\/(H' c=none/\s0.heap.get? c=none/\∀ p∈([]:List (Addr×Obj))++pins,p.1≠c):=λ c z=>.inl z
  refine wpAny_leaves_madeW (base:=Cy s1.heap (frs (envOfC qual scope s0.heap.objs.size f cd::outer))) hfr rfl (λ b o q=>CU _ q) (Dd I.stack hin) hm λ h' t x1 x2 x3 x4=>?_
  have up:s1.heap.UpToSlots h':=(Ec hm.keeps).trans x4
  have J:Inv (gP (CXE P w) P w K mg base N qual scope f cd A outer s0 H0 E) pins σ' H' { s1 with heap:=h',toks:=s1.toks }:=I.slip rfl (λ b o e n=>x1.1 b o (BM _ e n)) up hh
  obtain ⟨f1,f2,f3,oe,ws,T,oT,ts,he,hc,hd,h1,hnT,hTe,hT,hdT,h3⟩:=x1
  have nfr:∀ b ob vs,h'.get? b=some ob->ob.data=.fields vs->b∈frs (envOfC qual scope s0.heap.objs.size f cd::outer)->b=s0.heap.objs.size:=λ b ob vs e d z=>by
   rcases Al.mp (I.stkSub b z) with z | z
   ·exact z
   ·obtain ⟨_,o',ho',hd'⟩:=f3.mem z
    rw [e] at ho'; cases ho'; exact absurd d (hd' _)
  obtain ⟨e1,e2,_⟩:=I.unseen rfl f2 hh (nfr e oe ws he hd)
  obtain ⟨t1,t2,_⟩:=I.unseen rfl hnT hh (nfr T oT ts hT hdT)
  rw [es]
  exact ⟨e,C,none,H',rfl,J.os,J.bare,J.base,J.hok,⟨oe,ws,T,oT,ts,.ref t,he,hc.1,hd,hc.2,h1,hTe,hT,hdT,h3,e1,t1,e2,t2⟩,trivial,q⟩
 ·have I:=I.unwish
  obtain ⟨oe,ws,T,oT,ts,a0,he,hc,hd,h0,h1,hTe,hT,hdT,h3,e1,t1,e2,t2⟩:=fl
  have hfr:(A.deeper (envOfC qual scope s0.heap.objs.size f cd)).frames=some (envOfC qual scope s0.heap.objs.size f cd::outer):=I.ok.frames
  have hin:∀ env∈(envOfC qual scope s0.heap.objs.size f cd::outer),∀ b,env.frame=some b->b∈T::e::frs (envOfC qual scope s0.heap.objs.size f cd::outer):=λ env he b hb=>AG _ (AG _ (Bi.mpr ⟨env,he,hb⟩))
  have fresh:∀ b,hb.get? b=none->s0.heap.get? b=none/\∀ p∈([]:List (Addr×Obj))++pins,p.1≠b:=λ b z=>by
   constructor
   ·cases q:s0.heap.get? b with
    | none=>rfl
    | some o=>obtain ⟨o',z'⟩:=c1 b o q; rw [z] at z'; cases z'
   ·intro p hp y
    obtain ⟨o',z'⟩:=c2 p hp
    rw [y,z] at z'; cases z'
  have hh:∀ c∈T::e::frs (envOfC qual scope s0.heap.objs.size f cd::outer),c∈frs (envOfC qual scope s0.heap.objs.size f cd::outer)\/(H' c=none/\s0.heap.get? c=none/\∀ p∈([]:List (Addr×Obj))++pins,p.1≠c):=λ c z=>by
   rcases Al.mp z with rfl | z
   ·exact .inr ⟨t1,(fresh _ t2).1,(fresh _ t2).2⟩
   ·rcases Al.mp z with rfl | z
    ·exact .inr ⟨e1,(fresh _ e2).1,(fresh _ e2).2⟩
    ·exact .inl z
  have FW:CK (Cy s'.heap (T::e::frs (envOfC qual scope s0.heap.objs.size f cd::outer))) (envOfC qual scope s0.heap.objs.size f cd::outer) e (.ref C) a0 s'.heap:=
   ⟨λ b o q=>CU _ q,Cg _ (by simp),Dd I.stack hin,oe,ws,T,oT,ts,he,⟨hc,h0⟩,hd,h1,Cg _ (by simp),hTe,hT,hdT,h3⟩
  refine wpAny_mono (Dko.any (HT.ii _ _) dk (Q:=λ _ s2=>s2.os=s0.os/\AllBare s2.gens/\Un (frs outer) [] H0 H' s0.heap s2.heap/\HOk P w H' s2.heap/\Fl e C H' s0.heap s2.heap) ?_) (λ _ s2 ⟨⟨b1,b2,b3,b4,b5⟩,b6⟩=>⟨e,C,dd,H',rfl,b1,b2,b3,b4,b5,b6,q⟩) λ _ _ z=>z
  refine wpAny_leaves_onW hfr rfl FW λ h' x1 up=>?_
  have J:Inv (gP (CXE P w) P w K mg base N qual scope f cd A outer s0 H0 E) pins σ' H' { s' with heap:=h',toks:=s'.toks }:=I.slip rfl (λ b o e n=>x1.1 b o (BM _ e n)) up hh
  obtain ⟨f1,f2,f3,oe,ws,T',oT,ts,he,hc,hd,h1,hnT,hTe,hT,hdT,h3⟩:=x1
  have nfr:∀ b ob vs,h'.get? b=some ob->ob.data=.fields vs->b∈frs (envOfC qual scope s0.heap.objs.size f cd::outer)->b=s0.heap.objs.size:=λ b ob vs e d z=>by
   rcases Al.mp (I.stkSub b z) with z | z
   ·exact z
   ·obtain ⟨_,o',ho',hd'⟩:=f3.mem z
    rw [e] at ho'; cases ho'; exact absurd d (hd' _)
  obtain ⟨e1,e2,_⟩:=I.unseen rfl f2 hh (nfr e oe ws he hd)
  obtain ⟨t1,t2,_⟩:=I.unseen rfl hnT hh (nfr T' oT ts hT hdT)
  exact ⟨J.os,J.bare,J.base,J.hok,⟨oe,ws,T',oT,ts,a0,he,hc.1,hd,hc.2,h1,hTe,hT,hdT,h3,e1,t1,e2,t2⟩⟩
 ·have I:=I.unwish
  have hfr:(A.deeper (envOfC qual scope s0.heap.objs.size f cd)).frames=some (envOfC qual scope s0.heap.objs.size f cd::outer):=I.ok.frames
  have hin:∀ env∈(envOfC qual scope s0.heap.objs.size f cd::outer),∀ b,env.frame=some b->b∈e::frs (envOfC qual scope s0.heap.objs.size f cd::outer):=λ env he b hb=>AG _ (Bi.mpr ⟨env,he,hb⟩)
  have hh:∀ c∈e::frs (envOfC qual scope s0.heap.objs.size f cd::outer),c∈frs (envOfC qual scope s0.heap.objs.size f cd::outer)\/(H' c=none/\s0.heap.get? c=none/\∀ p∈([]:List (Addr×Obj))++pins,p.1≠c):=λ c z=>by
   rcases Al.mp z with rfl | z
   ·exact .inr ⟨e1,e2,e3⟩
   ·exact .inl z
  refine wpAny_mono (Dko.any (HT.ii _ _) dk (Q:=λ _ s2=>s2.os=s0.os/\AllBare s2.gens/\Un (frs outer) [] H0 H' s0.heap s2.heap/\HOk P w H' s2.heap/\Fl e C H' s0.heap s2.heap) ?_) (λ _ s2 ⟨⟨b1,b2,b3,b4,b5⟩,b6⟩=>⟨e,C,dd,H',rfl,b1,b2,b3,b4,b5,b6,q⟩) λ _ _ z=>z
  refine wpAny_leaving_firstW (base:=Cy s'.heap (e::frs (envOfC qual scope s0.heap.objs.size f cd::outer))) hfr (Dd I.stack hin) rfl he (λ b o q=>CU _ q) (Cg _ (by simp)) hd h1 h0 λ h' hL=>?_
  obtain ⟨k1,⟨_,_,k2⟩,k3,up⟩:=hL
  have x1:CK (Cy s'.heap (e::frs (envOfC qual scope s0.heap.objs.size f cd::outer))) outer e oe.cls a0 h':=⟨k1,Cg _ (by simp),k2,k3⟩
  rw [hc] at x1
  have J:Inv (gP (CXE P w) P w K mg base N qual scope f cd A outer s0 H0 E) pins σ' H' { s' with heap:=h',toks:=s'.toks }:=I.slip rfl (λ b o e n=>x1.1 b o (BM _ e n)) up hh
  obtain ⟨f1,f2,f3,oe,ws,T',oT,ts,he,hc,hd,h1,hnT,hTe,hT,hdT,h3⟩:=x1
  have nfr:∀ b ob vs,h'.get? b=some ob->ob.data=.fields vs->b∈frs (envOfC qual scope s0.heap.objs.size f cd::outer)->b=s0.heap.objs.size:=λ b ob vs e d z=>by
   rcases Al.mp (I.stkSub b z) with z | z
   ·exact z
   ·obtain ⟨_,o',ho',hd'⟩:=f3.mem z
    rw [e] at ho'; cases ho'; exact absurd d (hd' _)
  obtain ⟨e1,e2,_⟩:=I.unseen rfl f2 hh (nfr e oe ws he hd)
  obtain ⟨t1,t2,_⟩:=I.unseen rfl hnT hh (nfr T' oT ts hT hdT)
  exact ⟨J.os,J.bare,J.base,J.hok,⟨oe,ws,T',oT,ts,a0,he,hc.1,hd,hc.2,h1,hTe,hT,hdT,h3,e1,t1,e2,t2⟩⟩
end
section
variable {P:Program} {w:World} {K:Ae} {mg:Str->Option Value} {base:Heap}
theorem Fun.okX {st:Stmt} {fd:FuncData} {N ps:List Str} {sp:Sp} (F:Fun K x qual st f fd) (S:FnScope N ps (ap st)) (len:∀ vs H Q E,sp vs H Q E->vs.length=ps.length)
  (hbody:∀ (cdv:Value) (A:Around) (outer:List Env) (s:Shared) (H:Hp) (vs:List V) (Q:VK) (E:XK),Room k (A.deeper (envOfC qual (ap st) s.heap.objs.size f cdv))->sp vs H Q E->
   ∃ t,QXs (gP CX0 P w K mg base N qual (ap st) f cdv A outer s H E).nox (cZ st) t/\t { nx:=λ _ H'=>Q .non H',rt:=Q } (λ C d _ H'=>E (.ref C) d H') (bc N vs) H):FnOk P w K mg base (CXE P w) (k+1) f fd ps sp:=by
 obtain ⟨oc,od,kV,doc,pm,an,cdv,ct,osl,rfl,lk,hcd⟩:=F.ex
 refine sv lk hcd S len λ A outer s H vs Q E hr hsp=>?_
 obtain ⟨t,h,q⟩:=hbody cdv A outer s H vs Q E hr hsp
 have h:QXs (gP (CXE P w) P w K mg base N qual (ap st) f cdv A outer s H E).nox (cZ st) t:=h
 refine ⟨λ D σ H1=>t D (λ C d _ H'=>E (.ref C) d H') σ H1,λ pins s1 σ H1 D I q1=>?_,q⟩
 exact wpAny_mono (h.out pins s1 σ H1 D _ (I.wish _) q1) (λ _ _ z=>z.unwish) λ ev s' z=>XP.leave z
end
end L2
namespace L2
open PySem PySem.Spec PyProof.Rows PySem.W
structure XCl (K:Frag) (C:Addr):Prop where
 ga:findIn K (.ref C) "__getattribute__" = some (some (.builtin "BaseException.__getattribute__"))
 cl:findIn K (.ref C) "__class__" = some (some (.builtin "object.__class__"))
 gt:findIn K (.ref C) "__getattr__" = some none
 mb:mroIn K C (.type "BaseException")=some true
 mo:mroIn K C (.type "object")=some true
 cs:(clsIn K C).isSome=true
section
variable {prog:Program} {w:World} {A:Around} {E:Value->Shared->Prop} {h:Heap} {g:Array GenState} {d:Drawn} {t:Nat} {os:OsState} {K:Frag} {a C:Addr} {o:Obj} {vs:Array Value}
theorem wb {R:Result->Shared->Prop} (X:K.In h) (c:XCl K C) (hx:h.get? a=some o) (hc:o.cls=.ref C) (hq:R (.ok (.ret (.ref C))) ⟨h,g,d,t,os⟩) :
  codeAny (model prog w) A (.call (.builtin "getset_descriptor.__get__") ⟨[.builtin "object.__class__",.ref a,.ref C],[]⟩) R ⟨h,g,d,t,os⟩:=by
 have L0:Looks (model prog w) h (typeOf (.ref a)) (.ref C):=hc▸(Looks.ld hx).andThen .now
 have L1:=looks_mroIn (M:=model prog w) X c.mo
 have f5:(⟨h,g,d,t,os⟩:Shared).TypeIs (.builtin "object.__class__") "getset_descriptor":=ED
 have sl:=Gv
 refine codeAny_call_builtin sl.plain F.entry_gs_get (sl.check _ _ _ _ _ _ _ _ f5 (F.args_gs_get _ _ _) ?_)
 unfold Builtin.«getset_descriptor.__get__» Fq
 rw [dga_obj]
 refine wpAny_bind (wpAny_pure ?_)
 unfold EX Et Ew isInstance
 simp only [KF.owner_class]
 repeat lk
 refine ⟨DI _ (by decide +kernel),codeAny_builtin KF.entry_class ?_⟩
 unfold Builtin.«object.__class__» shownTypeOf
 repeat lk
 exact hq
theorem qh {tk:Tok} {Q:Fin->Shared->Prop} (X:K.In h) (c:XCl K C) (hx:h.get? a=some o) (hc:o.cls=.ref C) (hq:Q (.done (.ret (.ref C))) ⟨h,g,d,t,os⟩) :
  wpAny (model prog w) A (Builtin.«object.__getattribute__» ⟨[.ref a,.str "__class__" tk],[]⟩) Q E ⟨h,g,d,t,os⟩:=by
 have L0:Looks (model prog w) h (typeOf (.ref a)) (.ref C):=hc▸(Looks.ld hx).andThen .now
 have L1:=looks_findIn (M:=model prog w) X c.cl
 have f5:=ED
 have f6:=Gv.lookup
 have f7:=F.slot_gs_set.lookup
 repeat (any_goals (first | assumption | with_reducible refine Looks.at L0 ?_ | with_reducible refine Looks.at L1 ?_ | wp_step))
 refine wb X c hx hc ?_
 repeat (any_goals (first | assumption | wp_step))
theorem kM {M:Model} {v:Value} {Q:Unit->Shared->Prop} (X:K.In h) (c:XCl K C) (hx:h.get? a=some o) (hc:o.cls=.ref C) (hq:Q () ⟨h,g,d,t,os⟩) :
  wpAny M A (checkBuiltinCall "BaseException.__getattribute__" ⟨[.ref a,v],[]⟩) Q E ⟨h,g,d,t,os⟩:=by
 have kd:builtinKind "BaseException.__getattribute__" = some .slot:=by decide +kernel
 have sp:splitId "BaseException.__getattribute__" = some ("BaseException","__getattribute__"):=by decide +kernel
 have L0:Looks M h (typeOf (.ref a)) (.ref C):=hc▸(Looks.ld hx).andThen .now
 have L3:=looks_mroIn (M:=M) X c.mb
 have ar:=F.args_bexc_ga (.ref a) v
 simp only [checkBuiltinCall,kd,sp]
 refine wpAny_bind ?_
 unfold isInstance
 repeat (first | with_reducible refine Looks.at L0 ?_ | with_reducible refine Looks.at L3 ?_ | wp_step)
 exact hq
theorem yo {tk:Tok} (X:K.In h) (c:XCl K C) (hx:h.get? a=some o) (hc:o.cls=.ref C) (hq:Q (.ref C) ⟨h,g,d,t,os⟩) :
  wpAny (model prog w) A (getAttrBy (.ref a) (.str "__class__" tk) false) Q E ⟨h,g,d,t,os⟩:=by
 have L0:Looks (model prog w) h (typeOf (.ref a)) (.ref C):=hc▸(Looks.ld hx).andThen .now
 have L1:=looks_findIn (M:=model prog w) X c.ga
 have L2:=looks_findIn (M:=model prog w) X c.gt
 have L3:=looks_mroIn (M:=model prog w) X c.mb
 have sl:=Ft.ga
 have bnd:=sl.bind (.ref a)
 have ne:(onTheHeap (Aw C) && B3 "BaseException.__getattribute__" == B3 "object.__getattribute__")=false:=by
  rw [show (B3 "BaseException.__getattribute__" == B3 "object.__getattribute__")=false from by decide +kernel,EE]
 repeat (any_goals (first | assumption | with_reducible refine Looks.at L0 ?_ | with_reducible refine Looks.at L1 ?_ | with_reducible refine Looks.at L2 ?_ | wp_step))
 refine codeAny_call_builtin sl.plain FZ (kM X c hx hc (qh X c hx hc ?_))
 repeat (any_goals (first | assumption | wp_step))
theorem tP {Q:Option Value->Shared->Prop} (X:K.In h) (c:XCl K C) (hx:h.get? a=some o) (hc:o.cls=.ref C) (hq:Q (some (.ref C)) ⟨h,g,d,t+1,os⟩):wpAny (model prog w) A (getAttr? (.ref a) "__class__") Q E ⟨h,g,d,t,os⟩:=by
 unfold getAttr? getAttrBy?
 repeat (any_goals (first | assumption | with_reducible apply yo X c hx hc | wp_step))
theorem kN (c:XCl K C):KitX K (.ref a) (.ref C) (λ h=>∃ o vs,h.get? a=some o/\o.cls=.ref C/\o.data=.fields vs) where
 ty:=λ M h _ ⟨o,vs,h1,h2,_⟩=>h2▸(Looks.ld h1).andThen .now
 it:=λ M h X _=>by
  have q:=c.cs
  unfold clsIn at q
  split at q
  ·rename_i ho
   intro A' Q' E' s' k z
   unfold isType loadHead
   exact wpAny_bind (wpAny_loadPart (k _ _ (X _ _ ho)) (wpAny_pure z))
  ·cases q
 ne:=λ h tp dd its n sl X htp=>by
  have q:=c.cs
  unfold clsIn at q
  split at q
  ·rename_i ho
   refine Bool.eq_false_iff.mpr λ z=>?_
   have e:C=tp:=HL (beq_iff_eq.mp z)
   rw [<-e,X _ _ ho] at htp
   cases htp
  ·cases q
 ca:=λ {prog w A E Q s} X ⟨o,vs,h1,h2,_⟩ k=>by obtain ⟨h,g,d,t,os⟩:=s; exact tP X c h1 h2 k
end
inductive TyX (K:Frag) (H:Hp):V->Value->Prop where
 | non:TyX K H .non (.type "NoneType")
 | exc {a C:Addr} {d:Option Addr} (e:H a=some (gW a C d)) (c:XCl K C):TyX K H (.ref a) (.ref C)
noncomputable def clV:V->Value
 | .ref a=>.ref a
 | .ty n=>.type n
 | _=>.none
noncomputable def wS:V->Bool
 | .ref _=>true
 | .ty _=>true
 | _=>false
theorem rf (h:wS v=true) (r:RelV v u):u=clV v:=by
 cases v<;>first | exact r | cases h
theorem nM:∀ {xs:List V} {us:List Value},(xs.all wS)=true->Vals xs us->us=xs.map clV
 | _,_,_,.nil=>rfl
 | _,_,h,.cons r t=>by
  rw [B9,AZ] at h
  rw [Bo,rf h.1 r,nM h.2 t]
noncomputable def yp (K:Frag):RC:=λ xs H Q=>∃ x t c b,xs=[x,c]/\wS c=true/\TyX K H x t/\kitOne K t (clV c)=some b/\Q (.bl b) H
noncomputable def yq (K:Frag):RC:=λ xs H Q=>∃ x t tp cs b,xs=[x,.ref tp]/\H tp=some (.tup cs)/\cs.all wS=true/\TyX K H x t/\kitAny K t (cs.map clV)=some b/\Q (.bl b) H
section
variable {X:Cx}
theorem nN {K:Frag} (hK:X.K=K:=by rfl):QC X (.builtin "isinstance") (yp K):=by
 subst hK
 refine ⟨λ pins s σ H xs us Q I r h=>?_⟩
 obtain ⟨x,t,c,b,rfl,hc,ty,e,q⟩:=h
 cases r with
 | cons rx rr=>
  cases rr with
  | cons ry rr=>
   cases rr
   rw [rf hc ry]
   have fin:∀ tk,EP X pins σ Q (.bool b) { s with toks:=tk }:=λ tk=>⟨.bl b,H,I.tok _,rfl,q⟩
   cases ty with
   | non=>cases (show _=AT from rx); exact kia_one kitx_none I.kIn AK e (λ z=>nomatch z) fin
   | @exc a C d ea cl=>
    cases rx
    obtain ⟨⟨o,vs,p1,p2,p3,_⟩,_⟩:=(show ObjOk X.prog X.w H s.heap a (gW a C d) from I.hok a _ ea)
    exact kia_one (kN cl) I.kIn ⟨o,vs,p1,p2,p3⟩ e (λ z=>nomatch z) fin
theorem tQ {K:Frag} (hK:X.K=K:=by rfl):QC X (.builtin "isinstance") (yq K):=by
 subst hK
 refine ⟨λ pins s σ H xs us Q I r h=>?_⟩
 obtain ⟨x,t,tp,cs,b,rfl,htp,hcs,ty,e,q⟩:=h
 cases r with
 | cons rx rr=>
  cases rr with
  | cons ry rr=>
   cases rr
   cases ry
   obtain ⟨_,its,rv,⟨⟨c0,dd,dt,sl⟩,g1,g2,n,g3⟩⟩:=(show ObjOk X.prog X.w H s.heap tp (.tup cs) from I.hok tp _ htp)
   have g2':c0=.type "tuple":=g2
   have g3':dt=.seq its.toArray n:=g3
   subst g2' g3'
   rw [nM hcs rv] at g1
   have fin:∀ tk,EP X pins σ Q (.bool b) { s with toks:=tk }:=λ tk=>⟨.bl b,H,I.tok _,rfl,q⟩
   cases ty with
   | non=>cases (show _=AT from rx); exact kia_tup kitx_none I.kIn AK g1 e (λ z=>nomatch z) fin
   | @exc a C d ea cl=>
    cases rx
    obtain ⟨⟨o,vs,p1,p2,p3,_⟩,_⟩:=(show ObjOk X.prog X.w H s.heap a (gW a C d) from I.hok a _ ea)
    exact kia_tup (kN cl) I.kIn ⟨o,vs,p1,p2,p3⟩ g1 e (λ z=>nomatch z) fin
theorem kO (hg:Gl X x) (hm:X.mg x=some (.ref C)) (hd:(x == ("__debug__" : Str))=false:=by decide):QE X (.Name x pos) (tC (.ref C)):=⟨rJ hg hm (v:=.ref C) rfl hd⟩
end
noncomputable abbrev veB:List Value:=[.type "ValueError",.type "Exception",.type "BaseException",.type "object"]
section
variable {X:Cx} {e:Expr} {es:List Expr} {t:TA} {np cpos pos p:Pos} {x:Str} {C:Addr}
end
noncomputable abbrev jv (X:Cx) (e:Addr):Cx:={ X with A:=X.A.mark (some (.ref e)),calm:=false,xe:=λ _ _=>False }
section
variable {X:Cx} {pins:List (Addr×Obj)} {σ:St} {H:Hp} {s:Shared}
theorem Inv.mark (I:Inv X pins σ H s) (e:Addr):Inv (jv X e) pins σ H s:=
 ⟨⟨I.ok.mod,I.ok.kind,I.ok.glob,I.ok.blt,I.ok.above,I.ok.inj,I.ok.has,I.ok.cab,(λ z=>nomatch z),I.ok.frames,I.ok.stk,I.ok.exf,I.ok.bs,I.ok.bsz,I.ok.noex,I.ok.exfs,I.ok.funs,I.ok.frf⟩,I.os,I.bare,I.base,I.loc,I.cell,I.free,I.freeC,I.pin,I.hok,I.len⟩
theorem Inv.unmark {e:Addr} (I:Inv (jv X e) pins σ H s) (hd:X.calm=true->X.A.handled=none):Inv X pins σ H s:=
 ⟨⟨I.ok.mod,I.ok.kind,I.ok.glob,I.ok.blt,I.ok.above,I.ok.inj,I.ok.has,I.ok.cab,hd,I.ok.frames,I.ok.stk,I.ok.exf,I.ok.bs,I.ok.bsz,I.ok.noex,I.ok.exfs,I.ok.funs,I.ok.frf⟩,I.os,I.bare,I.base,I.loc,I.cell,I.free,I.freeC,I.pin,I.hok,I.len⟩
theorem eW {M:Model} {A:Around} {E:Value->Shared->Prop} {n:Str} {Q:Unit->Shared->Prop} (I:Inv X pins σ H s) (hN:X.N.Nodup) (hi:X.N[i]? = some n) (hl:X.env.scope.names.lookup n=some .local)
  (h:∀ s',Inv X pins (σ.set i none) H s'->Q () s'):wpAny M A (do bindName X.env n .none; unbindBehindTheSuite X.env n pos) Q E s:=by
 obtain ⟨m,hn,hlk⟩:=id I.loc
 have hcls:(X.env.scope.kind == .class || (X.env.scope.kind == .module && X.env.locals != X.env.globals))=false:=by rw [I.ok.kind]; rfl
 refine wpAny_nameGoes_keeps hl hn hcls λ h' v hn' hs=>h _ ?_
 have low:∀ b o,X.s₀.heap.get? b=some o->b≠X.env.locals:=λ b o e=>AB (AA (Am e) I.ok.above)
 refine ⟨I.ok,I.os,I.bare,⟨λ b o e n hb hx=>(hs.2 b (low b o e)).trans (I.base.keep b o e n hb hx),λ b o e n hb hx=>?_,I.base.free,λ b o e hx=>?_,I.base.tups,I.base.frzs,I.base.tbls⟩,⟨_,hn',λ j y v' e1 e2 e3=>?_⟩,λ y c e=>?_,I.free,I.freeC,λ p hp=>?_,λ b u e=>?_,by simpa using I.len⟩
 ·obtain ⟨sl,e1⟩:=I.base.slot b o e n hb hx
  exact ⟨sl,(hs.2 b (low b o e)).trans e1⟩
 ·obtain ⟨o',e1⟩:=I.base.there b o e hx
  exact ⟨o',(hs.2 b (low b o e)).trans e1⟩
 ·by_cases hj:j=i
  ·subst hj
   rw [Fu] at e2
   split at e2
   ·split at e2<;>cases e2
   ·rename_i z; exact absurd rfl z
  ·rw [BZ (AV hj)] at e2
   obtain ⟨u',r',q⟩:=hlk j y v' e1 e2 e3
   refine ⟨u',r',?_⟩
   rcases q with ⟨k,e⟩ | ⟨k,c,e,z⟩
   ·have ny:y≠n:=λ e=>hj (ik hN e1 (e▸hi))
    exact .inl ⟨k,by simp [ny,e]⟩
   ·exact .inr ⟨k,c,e,z.sameBut hs (I.cne y c e)⟩
 ·obtain ⟨w',z⟩:=I.cell y c e
  exact ⟨w',z.sameBut hs (I.cne y c e)⟩
 ·obtain ⟨e,n,ne,nf,d⟩:=I.pin p hp
  exact ⟨(hs.2 p.1 ne).trans e,n,ne,nf,d⟩
 ·have nl:∀ c v,H c=some v->c≠X.env.locals:=λ c v q z=>by rw [z,I.free] at q; cases q
  refine (I.hok b u e).stay (λ c v hc q=>(hs.2 c ?_).trans q) (λ _ q=>q) λ _ _ q=>q
  rcases hc with rfl | z
  ·exact nl _ _ e
  ·exact nl _ _ z
end
theorem jw {M:Model} {A:Around} {E:Value->Shared->Prop} {s:Shared} {base:Heap} {l:List Env} {e:Addr} {d:Option Addr} {cls a0:Value} {Q:Unit->Shared->Prop} (dk:Dko e d s.heap) (hh:CK base l e cls a0 s.heap)
  (hQ:∀ h',Dko e d h'->CK base l e cls a0 h'->s.heap.UpToSlots h'->Q () { s with heap:=h' }):wpAny M A (setFlight (.ref e) none) Q E s:=
 wpAny_mono (Dko.any (HT.dR (.ref e) none) dk (Q:=λ _ s2=>∃ h',s2={ s with heap:=h' }/\CK base l e cls a0 h'/\s.heap.UpToSlots h') (lands_againW hh λ h' a b=>⟨h',rfl,a,b⟩)) (λ _ s2 q=>by
  obtain ⟨⟨h',rfl,a,b⟩,dk'⟩:=q
  exact hQ h' dk' a b) λ _ _ z=>z
noncomputable def zc (K:Frag) (C:Addr) (i:Nat) (tb:TX) (ts:TS):TS:=λ D σ H=>tb D (λ C' d σ1 H1=>exmOne K (.ref C') (.ref C)=some true/\∀ e,H1 e=none->
 ts { nx:=λ σ2 H2=>D.nx (σ2.set i none) H2,rt:=D.rt,bk:=λ σ2 H2=>D.bk (σ2.set i none) H2,ct:=λ σ2 H2=>D.ct (σ2.set i none) H2 } (σ1.set i (some (.ref e))) (upd H1 e (gW e C' d))) σ H
section
variable {X:Cx} {body suite:List Stmt} {b0:Stmt} {tb:TX} {ts:TS} {n x:Str} {i:Nat} {C:Addr} {np hpos pos:Pos}
theorem wc {K:Frag} (hb:QXs X body tb) (hs:∀ e,QB (jv X e) (b0::suite) ts) (hN:X.N.Nodup) (hi:X.N[i]? = some n) (hl:X.env.scope.names.lookup n=some .local) (hg:Gl X x) (hm:X.mg x=some (.ref C)) (hst:X.stack=X.env::X.outer) (hfr:X.env.frame=some X.env.locals)
  (hex:X.ex=[]:=by rfl) (hd:(x == ("__debug__" : Str))=false:=by decide) (hK:X.K=K:=by rfl):QS X (.Try body [.ExceptHandler (some (.Name x np)) (some n) (b0::suite) hpos] [] [] pos) (zc K C i tb ts):=⟨by
 subst hK
 intro pins s σ H D I h
 refine wpAny_Try_except (wpAny_mono (hb.out pins s σ H D _ I h) (λ f s1 q=>?_) λ ev s1 q=>?_)
 ·cases f with
  | next=>exact wpAny_execs_nil q
  | ret v=>exact q
  | brk=>exact q
  | cont=>exact q
 obtain ⟨e,C',d0,σ1,H1,rfl,⟨hx,q⟩,hcase⟩:=q
 -- both ways come to one: the state s0 ahead,what is hidden
 have core:∀ (s0:Shared) (hid:List Addr) (a0:Value),Inv X pins σ1 H1 s0->s1={ s0 with heap:=s1.heap }->e∈hid\/s0.heap.get? e=none->
   (∀ b∈hid,b∈frs X.stack\/(H1 b=none/\X.s₀.heap.get? b=none/\∀ p∈X.pn++pins,p.1≠b))->∀ h4,Dko e d0 h4->Ga (hideAll s0.heap hid) X.stack e (.ref C') a0 X.env.locals h4->s0.heap.UpToSlots h4->
   wpAny (model X.prog X.w) X.A (setFlight (.ref e) none) (λ _ s₃=>wpAny (model X.prog X.w) X.A (handleBy (.ref e) X.env [.ExceptHandler (some (.Name x np)) (some n) (b0::suite) hpos]) (SP X pins D) X.xe s₃) X.xe { s1 with heap:=h4 }:=by
  intro s0 hid a0 I0 es hei hh h4 dk4 hheld up4
  refine wpAny_mono (Dko.any (s:={ s1 with heap:=h4 }) (HT.dR (.ref e) none) dk4 (Q:=λ _ s2=>∃ h5,s2={ s1 with heap:=h5 }/\CK (hideAll s0.heap hid) X.stack e (.ref C') a0 h5/\h4.UpToSlots h5) (wpAny_landsW (s:={ s1 with heap:=h4 }) hheld λ h5 fl5 up5=>⟨h5,rfl,fl5,up5⟩)) (λ _ s2 q2=>?_) λ _ _ z=>z
  obtain ⟨⟨h5,rfl,fl5,up5⟩,dk5⟩:=q2
  have dk5:Dko e d0 h5:=dk5
  have up5:s0.heap.UpToSlots h5:=up4.trans up5
  rw [es]
  have I5:Inv X pins σ1 H1 { s0 with heap:=h5,toks:=s0.toks }:=I0.slip hex (λ b o e n=>fl5.1 b o (hideAll_get _ e n)) up5 hh
  obtain ⟨ob,hob,hobc⟩:=fl5.there
  have LT:Looks (model X.prog X.w) h5 (typeOf (.ref e)) (.ref C'):=hobc▸(Looks.ld hob).andThen .now
  refine wpAny_handleBy_cons (codeAny_handlers_test (dL (X:=jv X e) (I5.mark e) hg hm ?_ hd)) (by intro q; cases q)
  refine (exm_one I5.kIn LT hx).here ?_
  refine codeAny_handlers_suite_as ?_
  refine jw (s:={ s0 with heap:=h5 }) dk5 fl5 λ h6 dk6 fl6 up6=>?_
  have up6:s0.heap.UpToSlots h6:=up5.trans up6
  have I6:Inv X pins σ1 H1 { s0 with heap:=h6,toks:=s0.toks }:=I0.slip hex (λ b o e n=>fl6.1 b o (hideAll_get _ e n)) up6 hh
  obtain ⟨oe,ws,hoe,hoec,hoed,_⟩:=fl6.first
  have nfr:e∈frs X.stack->e=X.env.locals:=λ z=>by
   obtain ⟨_,o',ho',hd'⟩:=fl6.2.2.1.mem z
   rw [hoe] at ho'; cases ho'; exact absurd hoed (hd' _)
  obtain ⟨u1,u2,u3⟩:=I0.unseen hex fl6.2.1 hh nfr
  have ne:e∉frs X.stack:=λ z=>by
   obtain ⟨_,o',ho',hd'⟩:=fl6.2.2.1.mem z
   rw [hoe] at ho'; cases ho'; exact absurd hoed (hd' _)
  have J6:Inv X pins σ1 (upd H1 e (gW e C' d0)) { s0 with heap:=h6,toks:=s0.toks }:=I6.track (o:=gW e C' d0) hoe hoed u1 u2 (u3 ne) (tL hoe hoec hoed dk6)
  refine di (X:=jv X e) (v:=.ref e) (J6.mark e) hN hi (.inl hl) rfl (λ s7 J7=>?_) (.inr hl)
  refine wpAny_mono ((hs e).out pins s7 _ _ _ J7 (q e u1)) (λ f s8 hq=>?_) λ _ _ z=>A7 z
  have hd0:=I0.ok.hd
  cases f with
  | next=>
   obtain ⟨σ2,H2,J8,q8⟩:=hq
   exact eW (J8.unmark hd0) hN hi hl λ s9 J9=>⟨_,H2,J9,q8⟩
  | brk=>
   obtain ⟨σ2,H2,J8,q8⟩:=hq
   exact eW (J8.unmark hd0) hN hi hl λ s9 J9=>⟨_,H2,J9,q8⟩
  | cont=>
   obtain ⟨σ2,H2,J8,q8⟩:=hq
   exact eW (J8.unmark hd0) hN hi hl λ s9 J9=>⟨_,H2,J9,q8⟩
  | ret u=>
   obtain ⟨v,σ2,H2,J8,r8,q8⟩:=hq
   exact eW (J8.unmark hd0) hN hi hl λ s9 J9=>⟨v,_,H2,J9,r8,q8⟩
 rcases hcase with ⟨rfl,s0,vs,I0,hmd,es⟩ | ⟨dk,I0,hbp,fl,c1,c2⟩ | ⟨dk,I0,oe,ws,a0,he,hc,hdd,h0,h1,e1,e2,e3⟩
 ·have hin:∀ env∈X.stack,∀ b,env.frame=some b->b∈frs X.stack:=λ env he b hb=>Bi.mpr ⟨env,he,hb⟩
  have hh:∀ b∈frs X.stack,b∈frs X.stack\/(H1 b=none/\X.s₀.heap.get? b=none/\∀ p∈X.pn++pins,p.1≠b):=λ b z=>.inl z
  obtain ⟨t,he,htn,ht⟩:=hmd.there
  have hen:(hideAll s0.heap (frs X.stack)).get? e=none:=by
   cases q:(hideAll s0.heap (frs X.stack)).get? e with
   | none=>rfl
   | some o=>have:=of_hideAll _ q; rw [hmd.new] at this; cases this
  have hl0:s1.heap.FunFrames (hideAll s0.heap (frs X.stack)) X.stack:=(funFrames_hide I0.stack hin).of_keeps λ b o hb _=>⟨o,hmd.keeps b o hb,rfl⟩
  have hfs:X.A.frames=some (X.env::X.outer):=by rw [I0.ok.frames,hst]
  unfold noteFrame
  simp only [hfr]
  refine wpAny_bind (wpAny_field (x:=AT) he rfl rfl ?_)
  rw [if_neg (show ¬ ((AT != AT)=true) by decide)]
  refine wpAny_entryW hfs (hst▸hl0) hfr he (λ b o q=>hmd.keeps _ _ (of_hideAll _ q)) hen rfl (by show 1<6; decide) rfl λ h4 hN4=>?_
  obtain ⟨k1,k2,k3,k4⟩:=hN4
  exact core s0 (frs X.stack) (.ref t) I0 es (.inr hmd.new) hh h4 trivial ⟨k1,hen,hst▸k2,k3⟩ ((Ec hmd.keeps).trans k4)
 ·obtain ⟨oe,ws,T,oT,tts,a0,he,hc,hdd,h0,h1,hTe,hT,hdT,h3,e1,t1,e2,t2⟩:=fl
  have hin:∀ env∈X.stack,∀ b,env.frame=some b->b∈T::e::frs X.stack:=λ env he b hb=>AG _ (AG _ (Bi.mpr ⟨env,he,hb⟩))
  have fresh:∀ b,hbp.get? b=none->X.s₀.heap.get? b=none/\∀ p∈X.pn++pins,p.1≠b:=λ b z=>by
   constructor
   ·cases q:X.s₀.heap.get? b with
    | none=>rfl
    | some o=>obtain ⟨o',z'⟩:=c1 b o q; rw [z] at z'; cases z'
   ·intro p hp y
    obtain ⟨o',z'⟩:=c2 p hp
    rw [y,z] at z'; cases z'
  have hh:∀ b∈T::e::frs X.stack,b∈frs X.stack\/(H1 b=none/\X.s₀.heap.get? b=none/\∀ p∈X.pn++pins,p.1≠b):=λ c z=>by
   rcases Al.mp z with rfl | z
   ·exact .inr ⟨t1,(fresh _ t2).1,(fresh _ t2).2⟩
   ·rcases Al.mp z with rfl | z
    ·exact .inr ⟨e1,(fresh _ e2).1,(fresh _ e2).2⟩
    ·exact .inl z
  have FW:CK (hideAll s1.heap (T::e::frs X.stack)) X.stack e (.ref C') a0 s1.heap:=
   ⟨λ b o q=>of_hideAll _ q,hideAll_none _ (by simp),funFrames_hide I0.stack hin,oe,ws,T,oT,tts,he,⟨hc,h0⟩,hdd,h1,hideAll_none _ (by simp),hTe,hT,hdT,h3⟩
  have hfs:X.A.frames=some (X.env::X.outer):=by rw [I0.ok.frames,hst]
  refine wpAny_mono (Dko.any (HT.dS (.ref e) X.env) dk (Q:=λ _ s2=>∃ h4,s2={ s1 with heap:=h4 }/\Ga (hideAll s1.heap (T::e::frs X.stack)) X.stack e (.ref C') a0 X.env.locals h4/\s1.heap.UpToSlots h4) (wpAny_looks_onW hfs hfr (hst▸FW) λ h4 hheld up=>⟨h4,rfl,hst▸hheld,up⟩)) (λ _ s2 q2=>?_) λ _ _ z=>z
  obtain ⟨⟨h4,rfl,hheld,up⟩,dk4⟩:=q2
  exact core s1 _ a0 I0 rfl (.inl (by simp)) hh h4 dk4 hheld up
 ·have hin:∀ env∈X.stack,∀ b,env.frame=some b->b∈e::frs X.stack:=λ env he b hb=>AG _ (Bi.mpr ⟨env,he,hb⟩)
  have hh:∀ b∈e::frs X.stack,b∈frs X.stack\/(H1 b=none/\X.s₀.heap.get? b=none/\∀ p∈X.pn++pins,p.1≠b):=λ c z=>by
   rcases Al.mp z with rfl | z
   ·exact .inr ⟨e1,e2,e3⟩
   ·exact .inl z
  have hfs:X.A.frames=some (X.env::X.outer):=by rw [I0.ok.frames,hst]
  have hl0:s1.heap.FunFrames (hideAll s1.heap (e::frs X.stack)) X.stack:=funFrames_hide I0.stack hin
  have hen:(hideAll s1.heap (e::frs X.stack)).get? e=none:=hideAll_none _ (by simp)
  refine wpAny_mono (Dko.any (HT.dS (.ref e) X.env) dk (Q:=λ _ s2=>∃ h4,s2={ s1 with heap:=h4 }/\Ga (hideAll s1.heap (e::frs X.stack)) X.stack e (.ref C') a0 X.env.locals h4/\s1.heap.UpToSlots h4) ?_) (λ _ s2 q2=>?_) λ _ _ z=>z
  ·unfold noteFrame
   simp only [hfr]
   refine wpAny_bind (wpAny_field (x:=AT) he hdd h1 ?_)
   rw [if_neg (show ¬ ((AT != AT)=true) by decide)]
   refine wpAny_entryW hfs (hst▸hl0) hfr he (λ b o q=>of_hideAll _ q) hen hdd (Array.getElem?_eq_some_iff.mp h1).1 h0 λ h4 hN4=>?_
   obtain ⟨k1,k2,k3,k4⟩:=hN4
   exact ⟨h4,rfl,⟨k1,hen,hst▸k2,hc▸k3⟩,k4⟩
  obtain ⟨⟨h4,rfl,hheld,up⟩,dk4⟩:=q2
  exact core s1 _ a0 I0 rfl (.inl (by simp)) hh h4 dk4 hheld up⟩
end
end L2
namespace L2
open PySem PySem.Spec PyProof.Rows
noncomputable def tFs (te:TE):TE:=λ σ H Q=>te σ H λ x H1=>∃ i:Int,x=.int i/\i.natAbs.log2<1920/\∀ y,Q (.str y) H1
section
variable {X:Cx} {v:Expr} {te:TE} {a b:Str} {p1 p2 p3 pos:Pos} {j1 j3:Nat}
theorem tR (hv:QE X v te) (hsz:a.length+b.length<=1000:=by decide):QE X (.JoinedStr [.Constant (.str a) j1 p1,.FormattedValue v (-1) none p2,.Constant (.str b) j3 p3] pos) (tFs te):=⟨by
 intro pins s σ H Q I h
 refine JoinedStr_many (joinParts_cons (DF ?_))
 refine ⟨by rw [strLen_append,sizeLine_eq]; show 0+_<=_; lia,?_⟩
 refine joinParts_cons (FormattedValue_plain (thn (hv.out pins _ σ H _ (I.tok _) h) λ u s1 ⟨x,H1,I1,r,i,ex,hi,q⟩=>?_))
 subst ex
 obtain ⟨tk,rfl⟩:=r
 have hl:=int_text_length_le (a:=i) (k:=1920) (by decide) hi
 refine formatField_int_small hi ⟨?_,?_⟩
 ·rw [strLen_append,strLen_append,CJ,sizeLine_eq]; show 0+_+_<=_; lia
 refine joinParts_cons (DF ?_)
 refine ⟨by rw [strLen_append,strLen_append,strLen_append,CJ,sizeLine_eq]; show 0+_+_+_<=_; lia,?_⟩
 refine joinParts_nil ⟨.str _,H1,I1.tok _,⟨_,rfl⟩,q _⟩ ?_
 rw [strLen_append,strLen_append,strLen_append,CJ,sizeLine_eq]; show 0+_+_+_<=_; lia⟩
end
section
variable {D:Ends} {Ex:XW} {σ:St} {H:Hp} {Q:VK} {K:Ae} {i:Nat} {C:Addr}
theorem yr (h:te σ H λ x H1=>∃ i:Int,x=.int i/\i.natAbs.log2<1920/\∀ y,Q (.str y) H1):tFs te σ H Q:=h
theorem zd {t:TS} (h:t D σ H):xOf t D Ex σ H:=h
theorem yt {t u:TX} (h:t { D with nx:=u D Ex } Ex σ H):za t u D Ex σ H:=h
theorem ze {c:TT} {t u:TX} (h:c σ H λ b H1=>if b=true then t D Ex σ H1 else u D Ex σ H1):xIf c t u D Ex σ H:=h
theorem wT {te:TEX} (h:te σ H (λ _ H1=>D.nx σ H1) λ C d H1=>Ex C d σ H1):v5 te D Ex σ H:=h
theorem tS {te:TEX} (h:te σ H (λ v H1=>D.nx (σ.set i (some v)) H1) λ C d H1=>Ex C d σ H1):zb i te D Ex σ H:=h
theorem wU {sp:Sp} {t:TA} {Ex:Addr->Option Addr->Hp->Prop} (h:t σ H λ vs H1=>sp vs H1 Q λ c d H2=>∃ C,c=.ref C/\Ex C d H2):wa sp t σ H Q Ex:=h
theorem zf {tb:TX} {ts:TS} (h:tb D (λ C' d σ1 H1=>EF K (.ref C') (.ref C)=some true/\∀ e,H1 e=none->
 ts { nx:=λ σ2 H2=>D.nx (σ2.set i none) H2,rt:=D.rt,bk:=λ σ2 H2=>D.bk (σ2.set i none) H2,ct:=λ σ2 H2=>D.ct (σ2.set i none) H2 } (σ1.set i (some (.ref e))) (upd H1 e (gW e C' d))) σ H):zc K C i tb ts D σ H:=h
end
section
variable {X:Cx}
end
section
variable {H H1:Hp} {x:V} {n:Nat}
end
end L2
namespace HT
open PySem PyProof.Rows PySem.W L2
noncomputable def lt2 (k m:List Int×List Int):Bool:=if k.1=m.1 then aQ k.2 m.2 else aQ k.1 m.1
theorem eX:∀ (a b:List Int),aQ a b=false->aQ b a=false->a=b
 | [],[],_,_=>rfl
 | [],y::b,h,_=>by cases h
 | x::a,[],_,h=>by cases h
 | x::a,y::b,h1,h2=>by
  rw [bb] at h1 h2
  by_cases g:x=y
  ·subst g
   rw [if_pos rfl] at h1 h2
   rw [eX a b h1 h2]
  ·rw [if_neg g] at h1
   rw [if_neg (AV g)] at h2
   have:=of_decide_eq_false h1
   have:=of_decide_eq_false h2
   lia
theorem kP (a b:List Int×List Int) (h:lt2 a b=true):lt2 b a=false:=by
 unfold lt2 at *
 by_cases g:a.1=b.1
 ·rw [if_pos g] at h
  rw [if_pos g.symm]
  exact fu _ _ h
 ·rw [if_neg g] at h
  rw [if_neg (AV g)]
  exact fu _ _ h
theorem nO (a b c:List Int×List Int) (h1:lt2 a b=false) (h2:lt2 b c=false):lt2 a c=false:=by
 obtain ⟨a1,a2⟩:=a
 obtain ⟨b1,b2⟩:=b
 obtain ⟨c1,c2⟩:=c
 unfold lt2 at *
 dsimp only at *
 by_cases g:a1=b1
 ·subst g
  rw [if_pos rfl] at h1
  by_cases g':a1=c1
  ·rw [if_pos g'] at h2 ⊢
   exact gB _ _ _ h1 h2
  ·rw [if_neg g'] at h2 ⊢
   exact h2
 ·rw [if_neg g] at h1
  by_cases g':b1=c1
  ·subst g'
   rw [if_neg g]
   exact h1
  ·rw [if_neg g'] at h2
   have h3:=gB _ _ _ h1 h2
   by_cases g2:a1=c1
   ·subst g2
    exact absurd (eX _ _ h1 h2) g
   ·rw [if_neg g2]; exact h3
theorem wd (ks:List (List Int×List Int)):Lt (λ i j=>lt2 (ks.getD i ([],[])) (ks.getD j ([],[]))):=⟨λ i j h=>kP _ _ h,λ i j k h1 h2=>nO _ _ _ h1 h2⟩
theorem eY (prog:Program) (w:World):∀ {xs:List Value} {ns:List Int},IntsAre xs ns->ItemsAre (intKind prog w) ns xs
 | _,_,.nil=>.nil
 | _,_,.cons n t r=>.cons (by simp [intKind,G5]) (eY prog w r)
section
variable {prog:Program} {w:World} {A:Around} {E:Value->Shared->Prop} {s:Shared}
theorem tT {x y q':Addr} {its its2 jts jts2:Array Value} {us2:List Value} {k m:List Int×List Int} {Q:Bool->Shared->Prop} (hu:A.units<cLine) (hx:IsTup s.heap x its) (hy:IsTup s.heap y its2) (ex:its.toList=.ref q::us) (ey:its2.toList=.ref q'::us2) (hi:IntsAre us k.2) (hj:IntsAre us2 m.2)
  (hq:IsTup s.heap q jts) (hq':IsTup s.heap q' jts2) (iq:IntsAre jts.toList k.1) (iq':IntsAre jts2.toList m.1) (h:Q (lt2 k m) s) :
  wpAny (model prog w) A (keyLt' (tuples' false) (.ref x) (.ref y)) Q E s:=by
 obtain ⟨o,ho,hc,n,hd⟩:=id hx
 obtain ⟨o2,ho2,hc2,n2,hd2⟩:=id hy
 refine kat_lt ho hd ho2 hd2 ?_
 rw [ex,ey,BG]
 obtain ⟨ov,hov,hcv,nv,hdv⟩:=id hq
 obtain ⟨ov2,hov2,hcv2,nv2,hdv2⟩:=id hq'
 refine kat_cons (wpAny_eqBool_tuple (knd:=intKind prog w) hu ⟨ov,jts,nv,hov,hcv,hdv,eY prog w iq⟩ ⟨ov2,jts2,nv2,hov2,hcv2,hdv2,eY prog w iq'⟩ ?_)
 unfold lt2 at h
 by_cases g:k.1=m.1
 ·rw [if_pos g] at h
  rw [decide_eq_true g]
  refine kat_yes (iH hi hj 1 false ?_ h)
  have e1:its.size=its.toList.length:=rfl
  have e2:its2.size=its2.toList.length:=rfl
  rw [e1,e2,ex,ey,Az,Az,<-hi.length,<-hj.length]
  simp
 ·rw [if_neg g] at h
  rw [decide_eq_false g]
  refine kat_no ?_
  exact kat_one _ _ (ia hq hq' iq iq' hu h)
theorem qi {fs:List Value} {Q:SortKind->Shared->Prop} (h2:2<=vs.length) (hl:vs.length=fs.length) (t:KatTups s.heap vs fs) (hf:∀ f∈fs,∃ q its,f=.ref q/\IsTup s.heap q its)
  (h:Q (tuples' false) s):wpAny (model prog w) A (keyKind' vs.toArray) Q E s:=by
 refine kat_kind (T:=BX "tuple") t (by lia) (λ v hv=>?_) rfl h
 obtain ⟨q,its,rfl,o,ho,hc,_⟩:=hf v hv
 rw [<-hc]
 exact (Looks.ld ho).andThen .now
theorem kQ:∀ {vs:List Value} {fs:List Value},vs.length=fs.length->(∀ (i:Nat) v f,vs[i]? = some v->fs[i]? = some f->∃ a its us,v=.ref a/\IsTup s.heap a its/\its.toList=f::us)->KatTups s.heap vs fs
 | [],[],_,_=>.nil
 | v::vs,f::fs,hl,h=>by
  have k1:=kQ (vs:=vs) (fs:=fs) (by simpa using hl) (λ i v r e1 e2=>h (i+1) v r (by simpa using e1) (by simpa using e2))
  obtain ⟨a,its,us,rfl,⟨o,ho,hc,n,hd⟩,hi⟩:=h 0 v f rfl rfl
  obtain ⟨its'⟩:=its
  simp only at hi
  subst hi
  exact KatTups.cons (f:=f) ho hc hd (by simp) k1
end
end HT
namespace L2
open PySem PySem.Spec PyProof.Rows
section
variable {X:Cx}
noncomputable def nP (K:Ae):List V->Hp->VK->Prop:=λ xs H Q=>∃ (l:Addr) (rs qs:List Addr) (ks:List (List Int×List Int)),xs=[.ref l]/\SqL K H l (rs.map HU)/\rs.length=ks.length/\qs.length=ks.length/\rs.length<1000/\
 (∀ (i:Nat) a q k,rs[i]? = some a->qs[i]? = some q->ks[i]? = some k->SqT K H a (HU q::k.2.map HR)/\SqT K H q (k.1.map HR))/\
 ∀ (d:Addr) (p:List Nat),H d=none->p.Perm (As rs.length)->p.Pairwise (Ah λ i j=>HT.lt2 (ks.getD i ([],[])) (ks.getD j ([],[])))->Q (.ref d) (upd H d (.lst (p.map λ i=>.ref (rs.getD i 0))))
theorem lY (hu:X.A.in1.in1.units<cLine):cY X (.builtin "sorted") (nP X.K):=by
 intro pins s σ H xs us Q I r h
 obtain ⟨l,rs,qs,ks,rfl,hq,hlen,hlq,h64,ht,q⟩:=h
 obtain ⟨u,rfl,rx⟩:=im r
 cases rx
 obtain ⟨its,r',pl,hz⟩:=I.list hq
 obtain rfl:=gC r'
 have hl:(rs.map Aw).length=rs.length:=Af _
 have tup:∀ (h':Heap),(∀ b o,s.heap.get? b=some o->h'.get? b=some o)->∀ (i:Nat) a q k,rs[i]? = some a->qs[i]? = some q->ks[i]? = some k->∃ its us jts,IsTup h' a its/\its.toList=.ref q::us/\IntsAre us k.2/\IsTup h' q jts/\IntsAre jts.toList k.1:=λ h' hk i a q k e1 e2 e3=>by
  obtain ⟨t1,t2⟩:=ht i a q k e1 e2 e3
  obtain ⟨its,r1,⟨o,ho,hc⟩,_⟩:=I.tuple t1
  obtain ⟨jts,r2,⟨o2,ho2,hc2⟩,_⟩:=I.tuple t2
  cases r1 with
  | cons rv r1=>
   cases rv
   exact ⟨_,_,jts.toArray,⟨o,hk _ _ ho,hc⟩,rfl,bn r1,⟨o2,hk _ _ ho2,hc2⟩,bn r2⟩
 have get:∀ i,i<(rs.map Aw).length->rs[i]? = some (rs.getD i 0)/\qs[i]? = some (qs.getD i 0)/\ks[i]? = some (ks.getD i ([],[]))/\(rs.map Aw).getD i AT=.ref (rs.getD i 0):=λ i hi=>by
  rw [hl] at hi
  have h2:i<qs.length:=by lia
  have h3:i<ks.length:=by lia
  refine ⟨?_,?_,?_,?_⟩
  ·rw [Ag,Ac hi]; rfl
  ·rw [Ag,Ac h2]; rfl
  ·rw [Ag,Ac h3]; rfl
  ·rw [Ag,Ag,Ak,Ac hi]; rfl
 have fin:∀ p:List Nat,p.Perm (As (rs.map Aw).length)->p.Pairwise (Ah λ i j=>HT.lt2 (ks.getD i ([],[])) (ks.getD j ([],[])))->
   EP X pins σ Q (.ref (s.heap.objs.size+1)) { s with heap:=sortedAll s.heap (rs.map Aw) (Au (p.map λ i=>(rs.map Aw).getD i AT)) }:=λ p hp hs=>by
  obtain ⟨c,hc⟩:=sortedAll_at s.heap (rs.map Aw) (Au (p.map λ i=>(rs.map Aw).getD i AT))
  have hpl:=hp.length_eq
  rw [Cd,hl] at hpl
  rw [hl] at hp
  refine ⟨.ref (s.heap.objs.size+1),_,I.laid (t':=s.toks) (λ b o e=>sortedAll_old e) (BO _) (show ObjOk X.prog X.w _ _ _ (.lst (p.map λ i=>.ref (rs.getD i 0))) from ⟨?_,_,c,iI λ i hi=>?_,hc⟩),rfl,q _ p (I.hok.fresh (BO _)) hp hs⟩
  ·rw [Af,hpl,sizeLine_eq]; lia
  ·rw [(get i (by rw [hl]; exact BD.mp (hp.mem_iff.mp hi))).2.2.2]
   rfl
 refine HT.ft (κ:=tuples' false) pl.isList (by lia) (HT.wd ks) (λ h' Q' h2 k hQ=>HT.qi (fs:=qs.map Aw) h2 (by rw [hl,Af]; lia) (HT.kQ (by rw [hl,Af]; lia) (λ i v f e1 e2=>?_)) (λ f hf=>?_) hQ) (λ h' i j Q' hi hj k hQ=>?_) fin
 ·rw [Ak] at e1 e2
  obtain ⟨a,ea,rfl⟩:=Be.mp e1
  obtain ⟨q,eq,rfl⟩:=Be.mp e2
  obtain ⟨_,_,g3,_⟩:=get i (by rw [hl]; exact aY ea)
  obtain ⟨its,us,jts,t1,e,_⟩:=tup h' k i a q _ ea eq g3
  exact ⟨a,its,us,rfl,t1,e⟩
 ·obtain ⟨q,hqm,rfl⟩:=Ct.mp hf
  obtain ⟨i,hi,rfl⟩:=AS hqm
  obtain ⟨g1,g2,g3,_⟩:=get i (by rw [hl]; lia)
  obtain ⟨its,us,jts,t1,e,_,t2,_⟩:=tup h' k i _ _ _ g1 (Ac hi) g3
  exact ⟨_,jts,rfl,t2⟩
 ·obtain ⟨g1,g2,g3,g4⟩:=get i hi
  obtain ⟨k1,k2,k3,k4⟩:=get j hj
  obtain ⟨its,us,jts,t1,e,i1,t2,i2⟩:=tup h' k i _ _ _ g1 g2 g3
  obtain ⟨its',us',jts',t1',e',i1',t2',i2'⟩:=tup h' k j _ _ _ k1 k2 k3
  rw [g4,k4]
  exact HT.tT hu t1 t1' e e' i1 i1' t2 t2' i2 i2' hQ
theorem qj {K:Ae} (hu:X.A.units+64<cLine) (hK:X.K=K:=by rfl):QC X (.builtin "sorted") (nP K):=by subst hK; exact ⟨lY (show X.A.units+1+1<cLine by lia)⟩
end
section
variable {X:Cx} {o e value:Expr} {es:List Expr} {f m x:Str} {pos pos' tpos apos p:Pos} {ta tv:TE} {t:TA} {C g:Addr} {CX:CXT} {k:Nat} {fd:FuncData} {ps:List Str} {sp:Sp} {E:XK}
theorem gE {K:Ae} (he:QE X e ta) (hb:attributeBase e f X.env (eval e X.env)=eval e X.env:=by rfl) (hK:X.K=K:=by rfl):QE X (.Attribute e f pos) (xD K ta f):=by
 subst hK; exact ⟨vh he.out hb⟩
theorem eZ {K:Ae} (ha:QE X o ta) (hv:QE X value tv) (hs:swapsWith value (some (.Attribute o f pos')) pos.line X.env=pure false:=by rfl) (hK:X.K=K:=by rfl):QS X (.Assign [.Attribute o f pos'] value pos) (xE K ta tv f):=by
 subst hK; exact ⟨vi ha.out hv.out hs⟩
theorem iJ {pl:Sem Bool} (he:QE X o ta) (c:Cls X.K C) (hm:Meth X.K C m g) (F:FnOk X.prog X.w X.K X.mg X.base CX k g fd ps sp) (hr:Room k X.A) (hb:Binds X.K fd ps []) (hx:dE CX X E) (ha:QA X (e::es) t)
  (hst:starEach (e::es) X.env=(false,eval e X.env)::starEach es X.env:=by rfl) (hpl:(backTo pos (starEach es X.env)).any (·.1)=false:=by rfl)
  (ht:eval (.Call (.Attribute o m apos) (e::es) [] pos) X.env=(do
   let ov <-eval o X.env
   standAt apos.atName
   let (q,first) <-holding [ov] (getMethod ov m pl)
   callWith pos q first (backTo pos (starEach (e::es) X.env)) (backToKw pos (keywordEach [] X.env))):=by rfl) :
  QE X (.Call (.Attribute o m apos) (e::es) [] pos) (mG C m sp [] E ta t):=⟨ss (pl:=pl) he.out c hm F hr hb .nil hx ha.out hst hpl ht⟩
theorem fR {pl:Sem Bool} (he:QE X o ta) (c:Cls X.K C) (hm:Meth X.K C m g) (F:FnOk X.prog X.w X.K X.mg X.base CX k g fd ps sp) (hr:Room k X.A) (hb:Binds X.K fd ps []) (hx:dE CX X E)
  (ht:eval (.Call (.Attribute o m apos) [] [] pos) X.env=(do
   let ov <-eval o X.env
   standAt apos.atName
   let (q,first) <-holding [ov] (getMethod ov m pl)
   callWith pos q first (backTo pos (starEach [] X.env)) (backToKw pos (keywordEach [] X.env))):=by rfl) :
  QE X (.Call (.Attribute o m apos) [] [] pos) (mG C m sp [] E ta uE):=⟨pH (pl:=pl) he.out c hm F hr hb .nil hx ht⟩
theorem tU (M:Mk X.K C g) (F:FnOk X.prog X.w X.K X.mg X.base CX k g fd ps sp) (hr:Room (k+1) X.A) (hg:Gl X x) (hm:X.mg x=some (.ref C)) (hb:Binds X.K fd ps []) (hx:dE CX X E)
  (ha:QA X (e::es) t) (hdb:(x == ("__debug__" : Str))=false:=by decide) (he:starEach (e::es) X.env=(false,eval e X.env)::starEach es X.env:=by rfl) (hpl:(backTo pos (starEach es X.env)).any (·.1)=false:=by rfl) :
  QE X (.Call (.Name x p) (e::es) [] pos) (sq C sp [] E t):=⟨su M F hr hg hm hb .nil hx ha.out hdb he hpl⟩
end
section
variable {K:Ae} {σ:St} {H:Hp} {Q:VK} {D:Ends} {ta tv:TE} {t:TA} {f m:Str} {C:Addr} {sp:Sp} {E:XK} {a dx:Addr} {fs:List (Str×V)} {v:V}
theorem zg (h:ta σ H λ x H1=>∃ a C dx fs v,x=.ref a/\H1 a=some (.ins C dx fs)/\Cls K C/\NoAttr K C f/\fs.lookup f=some v/\Q v H1):xD K ta f σ H Q:=h
theorem yu (h:tv σ H λ y H1=>ta σ H1 λ x H2=>∃ a C dx fs,x=.ref a/\H2 a=some (.ins C dx fs)/\Cls K C/\NoAttr K C f/\fs.length<1000/\D.nx σ (upd H2 a (.ins C dx (c9 f y fs)))):xE K ta tv f D σ H:=h
theorem yw (h:ta σ H λ x H1=>∃ a dx fs,x=.ref a/\H1 a=some (.ins C dx fs)/\fs.lookup m=none/\t σ H1 λ vs H2=>sp (x::(vs++[])) H2 Q E):mG C m sp [] E ta t σ H Q:=h
theorem yx (h:t σ H λ vs H1=>∀ x dx,H1 x=none->H1 dx=none->dx≠x->sp (.ref x::(vs++[])) (upd (upd H1 dx (.own x)) x (.ins C dx [])) (λ v H2=>v=.non/\Q (.ref x) H2) E):sq C sp [] E t σ H Q:=h
end
noncomputable def nQ (x:V) (d:PyData):Prop:=(x=.non/\d=.none)\/(∃ b,x=.bl b/\d=.bool b)\/(∃ i:Int,x=.int i/\d=.int i)\/(∃ y,x=.str y/\d=.str y/\G0 y=true)
noncomputable def DatE:Nat->Hp->V->PyData->Prop
 | 0,_,x,d=>nQ x d
 | n+1,H,x,d=>nQ x d\/(∃ a xs ds,x=.ref a/\d=.list ds/\H a=some (.lst xs)/\xs.length=ds.length/\∀ (i:Nat) u e,xs[i]? = some u->ds[i]? = some e->DatE n H u e)\/
  (∃ a xs ds,x=.ref a/\d=.tuple ds/\H a=some (.tup xs)/\xs.length=ds.length/\∀ (i:Nat) u e,xs[i]? = some u->ds[i]? = some e->DatE n H u e)
theorem DatE.leaf {H:Hp} {x:V} {d:PyData} (h:nQ x d):∀ {n:Nat},DatE n H x d
 | 0=>h
 | n+1=>.inl h
theorem DatE.int {H:Hp} {n:Nat} (i:Int):DatE n H (.int i) (.int i):=DatE.leaf (.inr (.inr (.inl ⟨i,rfl,rfl⟩)))
theorem DatE.non {H:Hp} {n:Nat}:DatE n H .non .none:=DatE.leaf (.inl ⟨rfl,rfl⟩)
theorem DatE.str {H:Hp} {n:Nat} {y:Str} (h:G0 y=true):DatE n H (.str y) (.str y):=DatE.leaf (.inr (.inr (.inr ⟨y,rfl,rfl,h⟩)))
theorem DatE.tup {H:Hp} {n:Nat} {a:Addr} {xs:List V} {ds:List PyData} (e:H a=some (.tup xs)) (hl:xs.length=ds.length) (h:∀ (i:Nat) u e,xs[i]? = some u->ds[i]? = some e->DatE n H u e):DatE (n+1) H (.ref a) (.tuple ds):=
 .inr (.inr ⟨a,xs,ds,rfl,rfl,e,hl,h⟩)
theorem DatE.facts {H:Hp}:∀ {n:Nat} {x:V} {d:PyData},DatE n H x d->d.canLay0=true/\d.depth<=n
 | n,x,d,h=>by
  have hint:nQ x d->d.canLay0=true/\d.depth<=n:=by
   rintro (⟨rfl,rfl⟩ | ⟨b,rfl,rfl⟩ | ⟨i,rfl,rfl⟩ | ⟨y,rfl,rfl,hy⟩)
   ·exact ⟨rfl,AC _⟩
   ·exact ⟨rfl,AC _⟩
   ·exact ⟨rfl,AC _⟩
   ·exact ⟨hy,AC _⟩
  match n,h with
  | 0,h=>exact hint h
  | n+1,h=>
   rcases h with h | ⟨a,xs,ds,rfl,rfl,ha,hl,hi⟩ | ⟨a,xs,ds,rfl,rfl,ha,hl,hi⟩
   ·exact hint h
   ·have hd:∀ d∈ds,d.canLay0=true/\d.depth<=n:=λ d hd=>by
     obtain ⟨i,e⟩:=CO hd
     have hlt:=aY e
     exact DatE.facts (hi i (xs[i]'(by lia)) d (Ac _) e)
    exact ⟨gu (P:=Gh) (PA:=Fv) rfl (λ _ _=>rfl) λ d h=>(hd d h).1,Di (cI λ d h=>(hd d h).2)⟩
   ·have hd:∀ d∈ds,d.canLay0=true/\d.depth<=n:=λ d hd=>by
     obtain ⟨i,e⟩:=CO hd
     have hlt:=aY e
     exact DatE.facts (hi i (xs[i]'(by lia)) d (Ac _) e)
    exact ⟨gu (P:=Gh) (PA:=Fv) rfl (λ _ _=>rfl) λ d h=>(hd d h).1,Di (cI λ d h=>(hd d h).2)⟩
section
variable {X:Cx} {pins:List (Addr×Obj)} {σ:St} {H:Hp} {s:Shared}
theorem DatE.reads (I:Inv X pins σ H s):∀ {n:Nat} {x:V} {d:PyData} {v:Value},DatE n H x d->RelV x v->∃ as,Reads s.heap v d as
 | n,x,d,v,h,r=>by
  have hint:nQ x d->∃ as,Reads s.heap v d as:=by
   rintro (⟨rfl,rfl⟩ | ⟨b,rfl,rfl⟩ | ⟨i,rfl,rfl⟩ | ⟨y,rfl,rfl,_⟩)
   ·cases r; exact ⟨_,.none⟩
   ·cases r; exact ⟨_,.bool b⟩
   ·obtain ⟨t,rfl⟩:=r; exact ⟨_,.int i t⟩
   ·obtain ⟨t,rfl⟩:=r; exact ⟨_,.str y t⟩
  match n,h with
  | 0,h=>exact hint h
  | n+1,h=>
   rcases h with h | ⟨a,xs,ds,rfl,rfl,ha,hl,hi⟩ | ⟨a,xs,ds,rfl,rfl,ha,hl,hi⟩
   ·exact hint h
   ·cases r
    obtain ⟨its,m,rv,ho,hz⟩:=I.lst ha
    obtain ⟨as,h1⟩:=cJ (R:=DatE n H) (λ x v d h r=>DatE.reads I h r) rv hl hi
    exact ⟨_,.list ho rfl rfl (by simpa using h1)⟩
   ·cases r
    obtain ⟨its,rv,⟨ob,ho,hc,m,hd⟩,hz⟩:=I.tuple (HQ ha)
    obtain ⟨as,h1⟩:=cJ (R:=DatE n H) (λ x v d h r=>DatE.reads I h r) rv hl hi
    exact ⟨_,.tuple ho hc hd (by simpa using h1)⟩
noncomputable def zh:R2:=λ x y H Q=>∃ (n:Nat) (d e:PyData),DatE n H x d/\DatE n H y e/\n<=32/\Q (.bl (!PyData.eqv d e)) H
theorem yy (hu:X.A.units+64<cLine):QOp X (compareOp .NotEq) zh:=by
 refine ⟨λ pins s σ H x y v u Q I rx ry h=>?_⟩
 obtain ⟨n,d,e,hd,he,hn,q⟩:=h
 obtain ⟨as,r1⟩:=hd.reads I rx
 obtain ⟨bs,r2⟩:=he.reads I ry
 have f1:=hd.facts
 have f2:=he.facts
 exact G1 r1 r2 f1.1 f2.1 (by have:=Nat.min_le_left d.depth e.depth; have:=f1.2; lia) X.prog X.w X.xe _ ⟨.bl _,H,I,rfl,q⟩
end
section
variable {H:Hp} {Q:VK} {x y:V} {n:Nat} {d e:PyData}
theorem jx (h1:DatE n H x d) (h2:DatE n H y d) (hn:n<=32) (h:Q (.bl false) H):zh x y H Q:=⟨n,d,d,h1,h2,hn,by rw [Hg d h1.facts.1]; exact h⟩
end
end L2
namespace HT
open PySem PyProof.Rows PySem.W L2
section
variable {prog:Program} {w:World} {A:Around} {E:Value->Shared->Prop} {s:Shared}
end
end HT
namespace L2
open PySem PySem.Spec PyProof.Rows PySem.W
section
variable {X:Cx} {e:Expr} {t:TA} {p pos kpos cp:Pos} {k:Nat} {j:Nat}
end
end L2
namespace L2
open PySem PySem.Spec PyProof.Rows
noncomputable abbrev PR:=Option (Nat×Nat)
noncomputable def fm (ps:List PR):List (Nat×Nat):=ps.filterMap id
theorem iK {α:Type} {xs:List α} {x d:α} (h:i<xs.length):(xs.set i x).getD i d=x:=by
 rw [Ag,BE h]; rfl
theorem eO {α:Type} {xs:List α} {x d:α} (h:i≠j):(xs.set i x).getD j d=xs.getD j d:=by
 rw [Ag,BZ h,Ag]
section
variable {qs:List (Nat×Nat)} {b:Nat} {st:HW}
end
section
variable {qs:List (Nat×Nat)} {b:Nat} {st:HW}
end
noncomputable def we:R2:=λ x y H Q=>y=.non/\Q (.bl (!decide (x=.non))) H
theorem nR:QOp X (compareOp .IsNot) we:=⟨r9⟩
theorem wV {H:Hp} {Q:VK} {x:V} (h:Q (.bl (!decide (x=.non))) H):we x .non H Q:=⟨rfl,h⟩
theorem gF {f g:Str} (v x:V) (r:List (Str×V)) (h:¬ g=f):c9 f v ((g,x)::r)=(g,x)::c9 f v r:=by rw [c9,if_neg h]
theorem eP {f:Str} {r:List (Str×V)}:Br f ((f,v)::r)=some v:=by simp [Br]
theorem eD {f g:Str} {r:List (Str×V)} (h:¬ f=g):Br f ((g,v)::r)=Br f r:=by
 have:(f == g)=false:=by simpa using h
 simp [Br,this]
noncomputable def PrV (H:Hp) (v:V) (o:PR):Prop:=match o with | none=>v=.non | some z=>∃ q,v=.ref q/\H q=some (.tup [.int (z.1:Nat),.int (z.2:Nat)])
section
variable (pa:Addr) (hv v:V) (ma ea:Addr) (n m:Int)
end
section
variable {C:Addr} {H H1:Hp} {w pa ma ea:Addr} {vs:List V} {hv:V} {st:HW}
end
theorem e8 (f:Str) (v:V):∀ fs:List (Str×V),(c9 f v fs).length<=fs.length+1
 | []=>Ai _
 | (g,x)::r=>by
  rw [c9]
  have:=e8 f v r
  split<;>simp<;>lia
theorem gX {α:Type} (xs:List α) (d:α) (p:List Nat) (h:p.Perm (As xs.length)):(p.map λ i=>xs.getD i d).Perm xs:=by
 have h1:=h.map λ i=>xs.getD i d
 rwa [qg] at h1
noncomputable def prD (o:PR):PyData:=match o with | none=>.none | some z=>.tuple [.int (z.1:Nat),.int (z.2:Nat)]
end L2
namespace HT
open PySem PyProof.Rows PySem.W L2
theorem kR (A:Around) (s:Shared) (a:Int) (t:Tok) (c:Int) (u:Tok) (prog:Program) (w:World) (E:Value->Shared->Prop) (Q:Value->Shared->Prop) (h:Q (.bool (decide (c<a))) s) :
  wpAny (model prog w) A (richCompare .Gt (.int a t) (.int c u)) Q E s:=
 (Hl h:wpAny (model prog w) A (compareOp .Gt (.int a t) (.int c u)) Q E s)
section
open PySem.SeqAt
open PySem.AutoSeq1 (wpAny_loadPart')
open PySem.MeetsSeq PySem.MeetsSeq2 PySem.MeetsSeq3
theorem j4 (x y:Int) (xs ys:List Int):aQ (x::xs) (y::ys)=if y=x then aQ xs ys else decide (x<y):=by
 rw [bb]
 by_cases g:x=y
 ·rw [if_pos g,if_pos g.symm]
 ·rw [if_neg g,if_neg (AV g)]
theorem iL (l b:Addr) (items items2:Array Value) (n n2:Nat) (dd dd2:Option Addr) (sl sl2:Array (Option Value)) (ns ms:List Int) (hi:IntsAre items.toList ns) (hj:IntsAre items2.toList ms) :
  Meets (Builtin.«tuple.__gt__» ⟨[.ref l,.ref b],[]⟩)
   (λ _ R s=>s.heap.get? l=some { cls:=.type "tuple",dict:=dd,data:=.seq items n,slots:=sl }/\s.heap.get? b=some { cls:=.type "tuple",dict:=dd2,data:=.seq items2 n2,slots:=sl2 }/\
    R (.ok (.ret (.bool (aQ ms ns)))) s):=
 .of_wp λ prog w A R s h=>by
  obtain ⟨hp,g,d,tk,os⟩:=s; obtain ⟨hl,hb,h⟩:=h
  have f2:=Cq
  have z1:items.size=ns.length:=by rw [<-hi.length]; simp
  have z2:items2.size=ms.length:=by rw [<-hj.length]; simp
  wp_walk using wpAny_loadPart' hl,wpAny_loadPart' hb,wpAny_forIn_list _ (λ rest b s'=>b.1=none/\s'=⟨hp,g,d,tk,os⟩/\∃ (vs ws:List Value) (ns' ms':List Int),rest=vs.zip ws/\
   IntsAre vs ns'/\IntsAre ws ms'/\ns'.length+items2.size=ms'.length+items.size/\R (.ok (.ret (.bool (aQ ms' ns')))) ⟨hp,g,d,tk,os⟩) _
  case turn=>
   rintro ⟨y,x⟩ rest b s' ⟨hb',rfl,vs,ws,ns',ms',hz,hvi,hwi,hlen,hR⟩
   cases hvi with
   | nil=>rw [C7] at hz; cases hz
   | cons a t hvi'=>
    cases hwi with
    | nil=>rw [CW] at hz; cases hz
    | cons c u hwi'=>
     rw [BG] at hz
     injection hz with hyx hrest
     injection hyx with hy hx
     subst hy hx
     rw [j4] at hR
     simp only [Az] at hlen
     obtain ⟨e,he,hiff⟩:=ir A.in1 ⟨hp,g,d,tk,os⟩ a t c u
     refine wpAny_bind (he prog w _ _ ?_)
     cases e with
     | true=>
      rw [if_pos (hiff.mp rfl)] at hR
      wp_walk
      exact ⟨rfl,rfl,_,_,_,_,hrest,hvi',hwi',by lia,hR⟩
     | false=>
      rw [if_neg (λ q=>absurd (hiff.mpr q) Ao)] at hR
      have hri:=kR A.in1 ⟨hp,g,d,tk,os⟩ a t c u prog w
      wp_walk using hri
      exact ⟨_,rfl,by simpa using hR⟩
  case fin=>
   rintro ⟨b1,b2⟩ s' ⟨hb',rfl,vs,ws,ns',ms',hz,hvi,hwi,hlen,hR⟩
   simp only at hb'
   subst hb'
   have hv:aQ ms' ns'=decide (items.size > items2.size):=by
    cases hvi with
    | nil=>
     cases hwi with
     | nil=>
      simp only [A9] at hlen
      exact (decide_eq_false (by lia)).symm
     | cons c u hw=>
      simp only [A9,Az] at hlen
      exact (decide_eq_false (by lia)).symm
    | cons a t hv=>
     cases hwi with
     | nil=>
      simp only [A9,Az] at hlen
      exact (decide_eq_true (by lia)).symm
     | cons c u hw=>
      rw [BG] at hz
      cases hz
   rw [hv] at hR
   wp_walk
   exact ⟨_,rfl,by simpa [BW] using hR⟩
  case h=>
   exact ⟨rfl,rfl,items.toList,items2.toList,ns,ms,rfl,hi,hj,by lia,h⟩
theorem jy (l b:Addr) (a1 a2 c1 c2:Value) (n n2:Nat) (dd dd2:Option Addr) (sl sl2:Array (Option Value)) (e1 e2 g1 g2:Bool) :
  Meets (Builtin.«tuple.__gt__» ⟨[.ref l,.ref b],[]⟩)
   (λ A R s=>s.heap.get? l=some { cls:=.type "tuple",dict:=dd,data:=.seq #[a1,a2] n,slots:=sl }/\s.heap.get? b=some { cls:=.type "tuple",dict:=dd2,data:=.seq #[c1,c2] n2,slots:=sl2 }/\
    EqAt A.in1 s a1 c1 e1/\EqAt A.in1 s a2 c2 e2/\(∀ prog w E Q,Q (.bool g1) s->wpAny (model prog w) A.in1 (richCompare .Gt a1 c1) Q E s)/\(∀ prog w E Q,Q (.bool g2) s->wpAny (model prog w) A.in1 (richCompare .Gt a2 c2) Q E s)/\
    R (.ok (.ret (.bool (if e1=true then (if e2=true then false else g2) else g1)))) s):=
 .of_wp λ prog w A R s h=>by
  obtain ⟨hp,g,d,tk,os⟩:=s; obtain ⟨hl,hb,h1,h2,r1,r2,h⟩:=h
  have f2:=Cq
  wp_walk using wpAny_loadPart' hl,wpAny_loadPart' hb,wpAny_forIn_list _ (λ rest b s'=>b.1=none/\s'=⟨hp,g,d,tk,os⟩/\(rest=[(a1,c1),(a2,c2)]\/(rest=[(a2,c2)]/\e1=true)\/(rest=[]/\e1=true/\e2=true))) _
  case turn=>
   rintro ⟨y,x⟩ rest b s' ⟨hb',rfl,hz⟩
   rcases hz with hz | ⟨hz,he1⟩ | ⟨hz,_⟩
   ·injection hz with hyx hrest
    injection hyx with hy hx
    subst hy hx
    refine wpAny_bind (h1 prog w _ _ ?_)
    cases e1 with
    | true=>
     wp_walk
     exact ⟨rfl,rfl,.inr (.inl ⟨hrest,rfl⟩)⟩
    | false=>
     have hri:=r1 prog w
     wp_walk using hri
     exact ⟨_,rfl,by simpa using h⟩
   ·injection hz with hyx hrest
    injection hyx with hy hx
    subst hy hx he1
    refine wpAny_bind (h2 prog w _ _ ?_)
    cases e2 with
    | true=>
     wp_walk
     exact ⟨rfl,rfl,.inr (.inr ⟨hrest,rfl,rfl⟩)⟩
    | false=>
     have hri:=r2 prog w
     wp_walk using hri
     exact ⟨_,rfl,by simpa using h⟩
   ·cases hz
  case fin=>
   rintro ⟨b1,b2⟩ s' ⟨hb',rfl,hz⟩
   simp only at hb'
   subst hb'
   rcases hz with hz | ⟨hz,he1⟩ | ⟨_,he1,he2⟩
   ·cases hz
   ·cases hz
   ·subst he1 he2
    wp_walk
    exact ⟨_,rfl,by simpa [BW] using h⟩
  case h=>
   exact ⟨rfl,rfl,.inl rfl⟩
end
section
variable {prog:Program} {w:World} {A:Around} {E:Value->Shared->Prop} {s:Shared}
theorem lZ {items2:Array Value} {ns ms:List Int} (hl:IsTup s.heap l items) (hb:IsTup s.heap b items2) (hi:IntsAre items.toList ns) (hj:IntsAre items2.toList ms)
  (hu:A.units<cLine) (h:Q (.bool (aQ ms ns)) s):wpAny (model prog w) A (richCompare .Gt (.ref l) (.ref b)) Q E s:=by
 obtain ⟨⟨cls,dd,data,sl⟩,ho,hc,n,hd⟩:=id hl
 obtain ⟨⟨cls2,dd2,data2,sl2⟩,ho2,hc2,n2,hd2⟩:=id hb
 simp only at hc hd hc2 hd2
 subst hc hd hc2 hd2
 exact richCompare_meets_room (op:=.Gt) ⟨_,ho,rfl⟩ ⟨_,ho2,rfl⟩ EG Eu (Ed _ _) (iL l b items items2 n n2 dd dd2 sl sl2 ns ms hi hj)
  ⟨ho,ho2,show C3 (aQ ms ns)≠Dq/\Q (.bool (aQ ms ns)) s from ⟨(λ x=>nomatch x),h⟩⟩ hu
theorem nS {q':Addr} {nx ny:Int} {tx ty:Tok} {jts jts2:Array Value} {k m:List Int} (hu:A.units+64<cLine) (hl:IsTup s.heap l #[.ref q,.int nx tx]) (hb:IsTup s.heap b #[.ref q',.int ny ty])
  (hq:IsTup s.heap q jts) (hq':IsTup s.heap q' jts2) (iq:IntsAre jts.toList k) (iq':IntsAre jts2.toList m) (h:Q (.bool (lt2 (m,[ny]) (k,[nx]))) s):wpAny (model prog w) A (compareOp .Gt (.ref l) (.ref b)) Q E s:=by
 obtain ⟨⟨cls,dd,data,sl⟩,ho,hc,n,hd⟩:=id hl
 obtain ⟨⟨cls2,dd2,data2,sl2⟩,ho2,hc2,n2,hd2⟩:=id hb
 simp only at hc hd hc2 hd2
 subst hc hd hc2 hd2
 obtain ⟨ov,hov,hcv,nv,hdv⟩:=id hq
 obtain ⟨ov2,hov2,hcv2,nv2,hdv2⟩:=id hq'
 have hu1:A.in1.units<cLine:=by show A.units+1<_; lia
 have e1:FL A.in1 s (.ref q) (.ref q') (decide (k=m)):=λ prog w E Q hQ=>wpAny_eqBool_tuple (knd:=intKind prog w) hu1 ⟨ov,jts,nv,hov,hcv,hdv,eY prog w iq⟩ ⟨ov2,jts2,nv2,hov2,hcv2,hdv2,eY prog w iq'⟩ hQ
 have e2:FL A.in1 s (.int nx tx) (.int ny ty) (nx == ny):=G3 nx tx ny ty
 have hval:(if decide (k=m)=true then (if (nx == ny)=true then false else decide (ny<nx)) else aQ m k)=lt2 (m,[ny]) (k,[nx]):=by
  unfold lt2
  dsimp only
  by_cases g:k=m
  ·rw [if_pos (decide_eq_true g),if_pos g.symm,bb]
   by_cases g2:nx=ny
   ·rw [if_pos (by simp [g2]),if_pos g2.symm]; rfl
   ·rw [if_neg (by simp [g2]),if_neg (AV g2)]
  ·rw [if_neg (by simp [g]),if_neg (AV g)]
 refine richCompare_meets_room (op:=.Gt) ⟨_,ho,rfl⟩ ⟨_,ho2,rfl⟩ EG Eu (Ed _ _) (jy l b (.ref q) (.int nx tx) (.ref q') (.int ny ty) n n2 dd dd2 sl sl2 (decide (k=m)) (nx == ny) (aQ m k) (decide (ny<nx)))
  ⟨ho,ho2,e1,e2,λ prog w E Q hQ=>lZ hq hq' iq iq' hu1 hQ,λ prog w E Q hQ=>kR _ _ _ _ _ _ prog w E Q hQ,?_⟩ (by lia)
 rw [hval]
 exact ⟨(λ x=>nomatch x),h⟩
end
end HT
namespace L2
open PySem PySem.Spec PyProof.Rows
section
variable {X:Cx}
noncomputable def zi (K:Ae):R2:=λ x y H Q=>∃ (a b q q':Addr) (k m:List Int) (nx ny:Int),x=.ref a/\y=.ref b/\SqT K H a [.ref q,.int nx]/\SqT K H b [.ref q',.int ny]/\SqT K H q (k.map HR)/\SqT K H q' (m.map HR)/\Q (.bl (HT.lt2 (m,[ny]) (k,[nx]))) H
theorem yz {K:Ae} (hu:X.A.units+64<cLine) (hK:X.K=K:=by rfl):QOp X (compareOp .Gt) (zi K):=by
 subst hK
 refine ⟨λ pins s σ H x y v u Q I rx ry h=>?_⟩
 obtain ⟨a,b,q,q',k,m,nx,ny,rfl,rfl,ha,hb,hq,hq',hQ⟩:=h
 cases rx
 cases ry
 obtain ⟨its,r1,p1,_⟩:=I.tuple ha
 obtain ⟨its2,r2,p2,_⟩:=I.tuple hb
 obtain ⟨jts,r3,p3,_⟩:=I.tuple hq
 obtain ⟨jts2,r4,p4,_⟩:=I.tuple hq'
 cases r1 with
 | cons a1 r1=>
  cases r1 with
  | cons a2 r1=>
   cases r1
   cases a1
   obtain ⟨t1,rfl⟩:=a2
   cases r2 with
   | cons b1 r2=>
    cases r2 with
    | cons b2 r2=>
     cases r2
     cases b1
     obtain ⟨t2,rfl⟩:=b2
     exact HT.nS hu p1 p2 p3 p4 (bn r3) (bn r4) ⟨.bl _,H,I,rfl,hQ⟩
end
theorem wf {K:Ae} {H:Hp} {Q:VK} {q':Addr} {k m:List Nat} {nx ny:Nat} (h1:H a=some (.tup [.ref q,.int (nx:Nat)])) (h2:H b=some (.tup [.ref q',.int (ny:Nat)])) (h3:H q=some (.tup (NV k))) (h4:H q'=some (.tup (NV m)))
  (h:Q (.bl (HT.lt2 (bf m,[(ny:Int)]) (bf k,[(nx:Int)]))) H):zi K (.ref a) (.ref b) H Q:=
 ⟨a,b,q,q',bf k,bf m,_,_,rfl,rfl,HQ h1,HQ h2,HQ (by rw [h3]; rw [ng]; rfl),HQ (by rw [h4]; rw [ng]; rfl),h⟩
noncomputable abbrev HP:=List Nat×Nat
noncomputable def hlt (x y:HP):Bool:=HT.lt2 (bf x.1,[(x.2:Int)]) (bf y.1,[(y.2:Int)])
theorem nT {a b:List Nat} (h:bf a=bf b):a=b:=by
 have e:∀ r:List Nat,(bf r).map Hx=r:=λ r=>by
  show (r.map λ x:Nat=>(x:Int)).map Hx=r
  rw [D9]
  exact (List.map_congr_left (λ x _=>by simp)).trans (List.map_id' r)
 rw [<-e a,<-e b,h]
theorem j5 {a b c:HP} (h1:hlt a b=false) (h2:hlt b c=false):hlt a c=false:=HT.nO _ _ _ h1 h2
theorem kT {a b:HP} (h:hlt a b=true):hlt b a=false:=HT.kP _ _ h
theorem nU (a:HP):hlt a a=false:=by
 cases h:hlt a a with
 | false=>rfl
 | true=>rw [kT h] at h; cases h
theorem qk {a b:HP} (h1:hlt a b=false) (h2:hlt b a=false):a=b:=by
 obtain ⟨a1,a2⟩:=a
 obtain ⟨b1,b2⟩:=b
 unfold hlt HT.lt2 at h1 h2
 dsimp only at h1 h2
 by_cases g:bf a1=bf b1
 ·rw [if_pos g] at h1
  rw [if_pos g.symm] at h2
  have:=HT.eX _ _ h1 h2
  have e1:=nT g
  have e2:a2=b2:=by
   have:=(HM this).1
   lia
  rw [e1,e2]
 ·rw [if_neg g] at h1
  rw [if_neg (AV g)] at h2
  exact absurd (HT.eX _ _ h1 h2) g
noncomputable def Fall (hs:List HP):Prop:=hs.Pairwise λ a b=>hlt a b=false
noncomputable def iM (ds:List HP):Prop:=ds.Pairwise λ a b=>hlt b a=false
theorem Fall.ins {hs:List HP} {h:HP} {k:Nat} (f:Fall hs) (h1:∀ x∈hs.take k,hlt h x=true) (h2:∀ x∈hs.drop k,hlt h x=false):Fall (hs.take k++h::hs.drop k):=by
 have f':(hs.take k++hs.drop k).Pairwise λ a b=>hlt a b=false:=by rw [Bf]; exact f
 rw [An] at f'
 refine An.mpr ⟨f'.1,BA.mpr ⟨h2,f'.2.1⟩,λ a ha b hb=>?_⟩
 rcases Al.mp hb with rfl | hb
 ·exact kT (h1 a ha)
 ·exact f'.2.2 a ha b hb
theorem ql (hs:List HP) (h:HP) (k:Nat):(hs.take k++h::hs.drop k).Perm (h::hs):=by
 have e:hs=hs.take k++hs.drop k:=(Bf k hs).symm
 conv=>rhs; rw [e]
 exact Dg
theorem Fall.get {hs:List HP} (f:Fall hs) (hij:i<j) (hj:j<hs.length):hlt (hs.getD i ([],0)) (hs.getD j ([],0))=false:=by
 have:=Bb.mp f i j (by lia) hj hij
 rw [Ag,Ac (by lia),Ag,Ac hj]
 exact this
noncomputable def hd (L:List (List (List Nat))) (ms:List Nat) (i:Nat):Option HP:=((L.getD i [])[ms.getD i 0]?).map λ r=>(r,i)
noncomputable def l0 (L:List (List (List Nat))) (ms:List Nat) (i:Nat):List HP:=((L.getD i []).drop (ms.getD i 0)).map λ r=>(r,i)
noncomputable def fD (L:List (List (List Nat))) (ms:List Nat) (n:Nat):List HP:=((As n).map (l0 L ms)).flatten
noncomputable def cR (L:List (List (List Nat))) (ms:List Nat) (n:Nat):List HP:=(As n).filterMap (hd L ms)
noncomputable def cK (L:List (List (List Nat))) (ms:List Nat) (n k:Nat):List HP:=(As n).filterMap λ i=>if i=k then none else hd L ms i
noncomputable def gY (r:List (List Nat)):Prop:=r.Pairwise λ a b=>lxt b a=false
theorem fw (L:List (List (List Nat))) (ms:List Nat) (n:Nat):cR L ms (n+1)=cR L ms n++(hd L ms n).toList:=by
 unfold cR
 rw [El,EH]
 congr 1
theorem nV {L:List (List (List Nat))} (h:∀ i,i≠k->ms'.getD i 0=ms.getD i 0) (n:Nat):cK L ms' n k=cK L ms n k:=by
  unfold cK
  have:(λ i=>if i=k then none else hd L ms' i)=λ i=>if i=k then none else hd L ms i:=by
   funext i
   by_cases e:i=k
   · rw [if_pos e,if_pos e]
   · rw [if_neg e,if_neg e]
     unfold hd
     rw [h i e]
  rw [this]
theorem eQ (L:List (List (List Nat))) (ms:List Nat) (k:Nat):∀ n,k<n->(cR L ms n).Perm ((hd L ms k).toList++cK L ms n k)
 | 0,h=>absurd h (B1 _)
 | n+1,h=>by
  rw [fw]
  have eo:cK L ms (n+1) k=cK L ms n k++(if n=k then none else hd L ms n).toList:=by
   unfold cK
   rw [El,EH]
   congr 1
  rw [eo]
  by_cases e:n=k
  ·subst e
   rw [if_pos rfl]
   have e2:cR L ms n=cK L ms n n:=by
    unfold cR cK
    have:∀ i∈As n,hd L ms i=(if i=n then none else hd L ms i):=λ i hi=>by rw [if_neg (by have:=BD.mp hi; lia)]
    have fc:∀ l:List Nat,(∀ i∈l,hd L ms i=(if i=n then none else hd L ms i))->l.filterMap (hd L ms)=l.filterMap λ i=>if i=n then none else hd L ms i:=λ l=>by
     induction l with
     | nil=>intro _; rfl
     | cons a l ih=>
      intro hh
      rw [Cu,Cu,<-hh a (A1 ..),ih λ i hi=>hh i (AG _ hi)]
    exact fc _ this
   rw [e2]
   simp only [Option.toList_none,B8]
   exact BV
  ·rw [if_neg e]
   have ih:=eQ L ms k n (by lia)
   exact (ih.append_right _).trans (by rw [A0])
theorem gG {L:List (List (List Nat))} {x:HP} (h:x∈cR L ms n):x.2<n/\hd L ms x.2=some x:=by
 unfold cR at h
 obtain ⟨i,hi,e⟩:=Bi.mp h
 have hx:x.2=i:=by
  unfold hd at e
  obtain ⟨r,_,rfl⟩:=Be.mp e
  rfl
 subst hx
 exact ⟨BD.mp hi,e⟩
theorem nW {L:List (List (List Nat))} {x:HP} (h:hd L ms x.2=some x):(L.getD x.2 [])[ms.getD x.2 0]? = some x.1:=by
 unfold hd at h
 obtain ⟨r,hr,e⟩:=Be.mp h
 rw [hr,<-e]
theorem nX {L:List (List (List Nat))} {x:HP} (h:hd L ms x.2=some x):l0 L ms x.2=x::((L.getD x.2 []).drop (ms.getD x.2 0+1)).map λ r=>(r,x.2):=by
 have e:=nW h
 unfold l0
 rw [Cj (AH.mp e).1,(AH.mp e).2]
 rfl
theorem cL (L:List (List (List Nat))) (ms:List Nat) (n:Nat):fD L ms (n+1)=fD L ms n++l0 L ms n:=by
 unfold fD
 rw [El,AN,ET]
 simp
theorem nY {L:List (List (List Nat))} {ms ms':List Nat}:∀ n,(∀ i,i<n->ms'.getD i 0=ms.getD i 0)->fD L ms' n=fD L ms n
 | 0,_=>rfl
 | n+1,h=>by
  rw [cL,cL,nY n λ i hi=>h i (by lia)]
  congr 1
  unfold l0
  rw [h n (by lia)]
theorem gH {L:List (List (List Nat))} {ms:List Nat} {x:HP} (h:hd L ms x.2=some x) (hm:x.2<ms.length):∀ n,x.2<n->(fD L ms n).Perm (x::fD L (ms.set x.2 (ms.getD x.2 0+1)) n)
 | 0,z=>absurd z (B1 _)
 | n+1,z=>by
  rw [cL,cL]
  by_cases e:n=x.2
  ·have e1:fD L (ms.set x.2 (ms.getD x.2 0+1)) n=fD L ms n:=nY n λ i hi=>eO (by lia)
   rw [e1,e,nX h]
   have e2:l0 L (ms.set x.2 (ms.getD x.2 0+1)) x.2=((L.getD x.2 []).drop (ms.getD x.2 0+1)).map λ r=>(r,x.2):=by
    unfold l0
    rw [iK hm]
   rw [e2]
   exact Dg
  ·have ih:=gH h hm n (by lia)
   have e1:l0 L (ms.set x.2 (ms.getD x.2 0+1)) n=l0 L ms n:=by
    unfold l0
    rw [eO (AV e)]
   rw [e1]
   exact ih.append_right _
theorem nZ {L:List (List (List Nat))} {y:HP} (h:y∈fD L ms n):y.2<n/\∃ j,ms.getD y.2 0<=j/\(L.getD y.2 [])[j]? = some y.1:=by
 unfold fD at h
 obtain ⟨l,hl,hy⟩:=List.mem_flatten.mp h
 obtain ⟨i,hi,rfl⟩:=Ct.mp hl
 unfold l0 at hy
 obtain ⟨r,hr,rfl⟩:=Ct.mp hy
 obtain ⟨j,hj,rfl⟩:=AS hr
 rw [Bc] at hj
 refine ⟨BD.mp hi,ms.getD i 0+j,Cs _ _,?_⟩
 rw [C9]
 exact Ac _
structure MgOk (L:List (List (List Nat))) (ms:List Nat) (hs:List HP):Prop where
 ml:ms.length=L.length
 fa:Fall hs
 pe:hs.Perm (cR L ms L.length)
theorem MgOk.least {L:List (List (List Nat))} {hs:List HP} {x:HP} (h:MgOk L ms (hs++[x])) (hr:∀ r∈L,gY r):hd L ms x.2=some x/\x.2<L.length/\∀ y∈fD L ms L.length,hlt y x=false:=by
 have hx:=gG (h.pe.mem_iff.mp (AD _ (AJ.mpr rfl)))
 refine ⟨hx.2,hx.1,λ y hy=>?_⟩
 obtain ⟨hy1,j,hj1,hj2⟩:=nZ hy
 have hlt0:ms.getD y.2 0<(L.getD y.2 []).length:=By hj1 (AH.mp hj2).1
 have e0:(L.getD y.2 [])[ms.getD y.2 0]? = some ((L.getD y.2 [])[ms.getD y.2 0]):=Ac hlt0
 have eh:hd L ms y.2=some ((L.getD y.2 [])[ms.getD y.2 0],y.2):=by unfold hd; rw [e0]; rfl
 have hm:((L.getD y.2 [])[ms.getD y.2 0],y.2)∈hs++[x]:=by
  refine h.pe.mem_iff.mpr ?_
  unfold cR
  exact Bi.mpr ⟨y.2,BD.mpr hy1,eh⟩
 have h1:hlt ((L.getD y.2 [])[ms.getD y.2 0],y.2) x=false:=by
  rcases AO.mp hm with g | g
  ·have f:=h.fa
   unfold Fall at f
   rw [An] at f
   exact f.2.2 _ g x (AJ.mpr rfl)
  ·rw [AJ.mp g]; exact nU x
 have hrl:gY (L.getD y.2 []):=by
  rw [Ag,Ac hy1]
  exact hr _ (AU hy1)
 have h2:hlt y ((L.getD y.2 [])[ms.getD y.2 0],y.2)=false:=by
  unfold hlt HT.lt2
  dsimp only
  by_cases g:bf y.1=bf ((L.getD y.2 [])[ms.getD y.2 0])
  ·rw [if_pos g]
   rw [HT.bb,if_pos rfl]; rfl
  ·rw [if_neg g]
   have hne:ms.getD y.2 0≠j:=λ z=>g (by
    have:(L.getD y.2 [])[ms.getD y.2 0]? = some y.1:=by rw [z]; exact hj2
    rw [e0] at this
    rw [Ba this])
   have:=Bb.mp hrl (ms.getD y.2 0) j hlt0 (AH.mp hj2).1 (by lia)
   rw [(AH.mp hj2).2] at this
   exact this
 exact j5 h2 h1
noncomputable def NextOk (L:List (List (List Nat))) (ms:List Nat) (hs:List HP) (o:Option HP) (ms':List Nat) (hs':List HP):Prop:=
 (hs=[]/\o=none/\ms'=ms/\hs'=hs)\/∃ hs0 x,hs=hs0++[x]/\o=some x/\ms'=ms.set x.2 (ms.getD x.2 0+1)/\Fall hs'/\hs'.Perm ((hd L (ms.set x.2 (ms.getD x.2 0+1)) x.2).toList++hs0)
theorem NextOk.ok {L:List (List (List Nat))} {hs hs':List HP} {o:Option HP} (h:MgOk L ms hs) (n:NextOk L ms hs o ms' hs'):MgOk L ms' hs':=by
 rcases n with ⟨_,_,rfl,rfl⟩ | ⟨hs0,x,rfl,_,rfl,f,p⟩
 ·exact h
 ·have hx:=gG (h.pe.mem_iff.mp (AD _ (AJ.mpr rfl)))
  refine ⟨by rw [Bj]; exact h.ml,f,p.trans ?_⟩
  have s1:=eQ L ms x.2 L.length hx.1
  have s2:=eQ L (ms.set x.2 (ms.getD x.2 0+1)) x.2 L.length hx.1
  rw [nV (λ i hi=>eO (AV hi))] at s2
  have p1:(hs0++[x]).Perm ([x]++cK L ms L.length x.2):=by
   have:=h.pe.trans s1
   rw [hx.2] at this
   exact this
  have p2:hs0.Perm (cK L ms L.length x.2):=Gi x |>.mp (BV.trans p1)
  exact (p2.append_left _).trans s2.symm
theorem qo {L:List (List (List Nat))} (h:MgOk L ms []):fD L ms L.length=[]:=by
 apply List.eq_nil_iff_forall_not_mem.mpr
 intro y hy
 obtain ⟨hy1,j,hj1,hj2⟩:=nZ hy
 have hlt0:ms.getD y.2 0<(L.getD y.2 []).length:=By hj1 (AH.mp hj2).1
 have eh:hd L ms y.2=some ((L.getD y.2 [])[ms.getD y.2 0],y.2):=by unfold hd; rw [Ac hlt0]; rfl
 have:((L.getD y.2 [])[ms.getD y.2 0],y.2)∈([]:List HP):=h.pe.mem_iff.mpr (Bi.mpr ⟨y.2,BD.mpr hy1,eh⟩)
 cases this
theorem qq {L:List (List (List Nat))} {hs hs':List HP} {o:Option HP} {x0:HP} {ds:List HP} (h:MgOk L ms hs) (hr:∀ r∈L,gY r) (n:NextOk L ms hs o ms' hs') (p:(fD L ms L.length).Perm (x0::ds)) (r:iM (x0::ds)) :
  o=some x0/\(fD L ms' L.length).Perm ds/\x0.2<L.length/\ms'=ms.set x0.2 (ms.getD x0.2 0+1)/\ms.getD x0.2 0<(L.getD x0.2 []).length:=by
 rcases n with ⟨rfl,_⟩ | ⟨hs0,x,rfl,rfl,rfl,f,q⟩
 ·rw [qo h] at p
  have:=p.length_eq
  simp at this
 ·obtain ⟨l1,l2,l3⟩:=h.least hr
  have st:=gH l1 (by rw [h.ml]; exact l2) L.length l2
  have hx:x=x0:=by
   have m1:x∈x0::ds:=p.mem_iff.mp (st.mem_iff.mpr (A1 ..))
   refine qk ?_ (l3 x0 (p.mem_iff.mpr (A1 ..)))
   rcases Al.mp m1 with e | e
   ·rw [e]; exact nU _
   ·exact (BA.mp r).1 x e
  subst hx
  exact ⟨rfl,Gi x |>.mp (st.symm.trans p),l2,rfl,(AH.mp (nW l1)).1⟩
theorem qr {L:List (List (List Nat))} {hs hs':List HP} {o:Option HP} (h:MgOk L ms hs) (hr:∀ r∈L,gY r) (n:NextOk L ms hs o ms' hs') (p:(fD L ms L.length).Perm []):o=none/\ms'=ms/\hs'=hs:=by
 rcases n with ⟨_,a,b,c⟩ | ⟨hs0,x,rfl,rfl,rfl,f,q⟩
 ·exact ⟨a,b,c⟩
 ·obtain ⟨l1,l2,l3⟩:=h.least hr
  have st:=gH l1 (by rw [h.ml]; exact l2) L.length l2
  have:=(st.symm.trans p).length_eq
  simp at this
section
variable {prog:Program} {w:World} {A:Around} {R:Result->Shared->Prop} {s:Shared} {scope:Scope}
end
section
variable {X:Cx} {N tgs frs:List Str} {ix:List Nat} {scope:Scope} {cl:List (Str×Addr)}
end
section
variable {K:Ae} {g g2:TG} {wi2:TI} {te:TE} {σ0:St} {H:Hp} {R:List V->Hp->Prop}
end
inductive RMv where
 | take (p:Nat)
 | move (p q:Nat)
 | lay (p:Nat)
section
variable {H H1:Hp} {v y:V} {d:PyData}
variable {vs us rs:List V} {ds:List PyData}
end
section
variable (ta:Addr) (hv v:V) (pa:Addr) (n m:Int)
end
section
variable {C:Addr} {H H1:Hp} {w ta pa:Addr} {ps:List Addr} {us:List V} {hv:V} {ms:List RMv} {d:Nat}
end
section
variable {X:Cx} {e:Expr} {es:List Expr} {t:TA} {pos p:Pos} {x:Str} {C f:Addr}
noncomputable def tV (C:Addr) (sp:Sp) (t:TA):TEX:=λ σ H Q Ex=>t σ H λ vs H1=>∀ x dx,H1 x=none->H1 dx=none->dx≠x->sp (.ref x::(vs++[])) (upd (upd H1 dx (.own x)) x (.ins C dx [])) (λ v H2=>v=.non/\Q (.ref x) H2) λ c d H2=>∃ D,c=.ref D/\Ex D d H2
theorem n5 {fd:FuncData} {ps:List Str} {sp:Sp} {H:Hp} {s:Shared} {Q:VK} {Ex:Addr->Option Addr->Hp->Prop} {vs:List V} (M:Mk X.K C f) (F:FnOk X.prog X.w X.K X.mg X.base (CXE X.prog X.w) k f fd ps sp) (hr:Room (k+1) X.A) (hb:Binds X.K fd ps []) (hex:X.ex=[])
  (I:Inv X pins σ H s) (r:Vals vs us) (h:∀ x dx,H x=none->H dx=none->dx≠x->sp (.ref x::(vs++[])) (upd (upd H dx (.own x)) x (.ins C dx [])) (λ v H2=>v=.non/\Q (.ref x) H2) λ c d H2=>∃ D,c=.ref D/\Ex D d H2) :
  wpAny (model X.prog X.w) X.A (call (.ref C) us) (EP X pins σ Q) (XP X pins λ C d σ' H'=>σ'=σ/\Ex C d H') s:=by
 have hq:=h (s.heap.objs.size+1) s.heap.objs.size (I.hok.fresh (BO _)) (I.hok.fresh (Ai _)) (AB (D5 _))
 have I2:=Inv.made (C:=C) I
 have r2:Vals (HU (s.heap.objs.size+1)::(vs++[])) (Aw (s.heap.objs.size+1)::(us++[])):=.cons rfl (r.append .nil)
 have hl:(Aw (s.heap.objs.size+1)::us++[]).length=ps.length:=by
  have e:=r2.length
  rw [F.len _ _ _ _ hq] at e
  exact e.symm
 refine wpAny_call (kq (f:=f) I.kIn M.makes M.init (beq_iff_eq.mp M.fn) (codeAny_mono (F.run _ X.stack _ _ ⟨Aw (s.heap.objs.size+1)::us,[]⟩ (Aw (s.heap.objs.size+1)::(us++[])) _ _ _ (hr.make C us [])
  (I2.env0.make C us []) (by have:=hb _ (Aw (s.heap.objs.size+1)::us) I2.kIn hl; exact this) r2 hq) λ r s' hq'=>?_))
 cases r with
 | error e=>
  obtain ⟨ea,D,d0,H',rfl,os,bare,un,hok,fl,dk,D',hD,q⟩:=hq'
  cases hD
  have I':Inv X pins σ H' s':=by
   obtain ⟨hh,g,d,t,os'⟩:=s'
   obtain rfl:os'=s.os:=os
   exact Inv.call (s:={ s with heap:=(s.heap.push Bt).push (BK C s.heap.objs.size) }) I2 (h':=hh) (g':=g) (d':=d) (t':=t) (ch:=[]) un hok bare (λ b z=>absurd z (by simp))
  exact ⟨ea,D,d0,σ,H',rfl,⟨rfl,q⟩,.inr (.inl ⟨dk,I',_,fl,λ b o z=>I2.base.there b o z (by rw [hex]; simp),λ p hp=>⟨_,(I2.pin p hp).1⟩⟩)⟩
 | ok fl=>
  cases fl with
  | ret u=>
   obtain ⟨v,H',I3,rv,ev,q3⟩:=I2.after hq'
   subst ev
   exact ⟨rv,⟨HU (s.heap.objs.size+1),H',I3,rfl,q3⟩⟩
  | next=>exact A7 hq'
  | brk=>exact A7 hq'
  | cont=>exact A7 hq'
theorem kU {fd:FuncData} {ps:List Str} {sp:Sp} (M:Mk X.K C f) (F:FnOk X.prog X.w X.K X.mg X.base (CXE X.prog X.w) k f fd ps sp) (hr:Room (k+1) X.A) (hg:Gl X x) (hm:X.mg x=some (.ref C)) (hb:Binds X.K fd ps [])
  (ha:QA X (e::es) t) (hn:(e::es).all cA=true:=by rfl) (hdb:(x == ("__debug__" : Str))=false:=by decide) (hex:X.ex=[]:=by rfl) (hx:∀ e s,X.xe e s->False:=by intro _ _ z; exact z):QEX X (.Call (.Name x p) (e::es) [] pos) (tV C sp t):=⟨by
 rw [B9,AZ] at hn
 intro pins s σ H Q Ex I h
 refine wpAny_Call_Name_kw (dL I hg hm ?_ hdb)
 refine B6 (h₀:=X.base) I.ok.mod.kin M.kp (wpAny_mono (ha.out pos pins s σ H _ I h) (λ us s1 ⟨vs,H1,I1,r,q⟩=>⟨I1.kIn,?_⟩) λ e s z=>(hx e s z).elim) (aB hn.1) (dj hn.2)
 exact n5 M F hr hb hex I1 r q⟩
end
end L2
namespace HT
open PySem PySem.Spec PyProof.Rows PySem.W L2
section
variable {prog:Program} {w:World} {A:Around} {E:Value->Shared->Prop} {s:Shared}
end
end HT
namespace L2
open PySem PySem.Spec PyProof.Rows
section
variable {X:Cx}
end
noncomputable def zR (s:List V×V):List V:=(s.1++[s.2]).filter (λ v=>decide (v≠V.non))
noncomputable def turn (r:List Nat):List Nat:=r.take 1++(r.drop 1).reverse
section
variable {H H1:Hp} {v y z:V} {d e:Option (List Nat×Nat)}
variable {vs us rs:List V}
end
section
variable {C:Addr} {H H1:Hp} {w ta pa:Addr} {ps:List Addr} {us:List V} {hv:V} {ms:List RMv} {d:Nat}
end
section
variable {H H1:Hp} {vs us:List V} {ds:List (List Nat×Nat)} {v:V} {d:List Nat×Nat}
end
section
variable {X:Cx} {e:Expr} {te:TE} {pos p1 p2 p3 p4 p5:Pos} {j j':Nat}
end
end L2
namespace HT
open PySem PyProof.Rows PySem.W L2
section
variable {prog:Program} {w:World} {A:Around} {E:Value->Shared->Prop}
end
end HT
namespace L2
open PySem PySem.Spec PyProof.Rows PySem.W
section
variable {X:Cx}
variable {o e:Expr} {to:TE} {t:TA} {apos cpos:Pos}
end
section
variable {X:Cx}
end
end L2
namespace HT
open PySem PyProof.Rows PySem.W L2
noncomputable abbrev tW (own fl ok ov:Value) (d:Addr) (i n ep:Nat):Obj:={ cls:=.type "dict_itemiterator",dict:=none,data:=.fields #[own,fl,.ref d,.int i 0,.int n 0,.int ep 0,ok,ov],slots:=#[] }
noncomputable def Ri (h:Heap) (it d S:Addr) (i n ep:Nat):Prop:=∃ own fl ok ov,h.get? it=some (tW own fl ok ov d i n ep)/\(own=.none/\fl=.bool false\/∃ (a:Addr) (b:Bool) (oa:Obj),own=rawInt a/\fl=.bool b/\h.get? a=some oa/\a≠it/\a≠S)
section
variable {prog:Program} {w:World} {A:Around} {E:Value->Shared->Prop} {s:Shared}
end
section
variable {prog:Program} {w:World} {A:Around} {E:Value->Shared->Prop} {s:Shared}
end
end HT
namespace L2
open PySem PySem.Spec PyProof.Rows PySem.W
section
variable {X:Cx} {pins:List (Addr×Obj)} {σ:St} {H:Hp} {s:Shared} {h':Heap}
end
section
variable {X:Cx} {o e f:Expr} {td ty tx:TE} {pos apos cpos p:Pos}
end
end L2
namespace HT
open PySem PyProof.Rows PySem.W L2
section
variable {prog:Program} {w:World} {A:Around} {E:Value->Shared->Prop} {s:Shared}
theorem zj {o:Obj} {es es1:Array (Int×Value)} {ep:Nat} {t t1:SetTable} (ho:h.get? a=some o) (hd:o.data=.set es ep t):(h.update a (Hh es1 t1)).get? a=some { o with data:=.set es1 (ep+1) t1 }:=by
 have:=BS (Hh es1 t1) ho (by rw [putSet_of es1 t1 hd]; rfl)
 rw [putSet_of es1 t1 hd] at this
 exact this
end
section
variable {prog:Program} {w:World} {A:Around} {E:Value->Shared->Prop} {s:Shared}
end
section
variable {prog:Program} {w:World} {A:Around} {E:Value->Shared->Prop} {s:Shared}
end
section
variable {prog:Program} {w:World} {A:Around} {E:Value->Shared->Prop} {s:Shared}
end
end HT
namespace L2
open PySem PySem.Spec PyProof.Rows PySem.W
section
variable {X:Cx} {e:Expr} {t:TA} {p p2 pos pos2:Pos} {pins:List (Addr×Obj)} {σ:St} {H:Hp} {s:Shared}
end
section
variable {X:Cx}
end
section
variable {X:Cx}
variable {o e:Expr} {to:TE} {t:TA} {apos cpos:Pos}
end
section
variable {X:Cx} {pins:List (Addr×Obj)} {σ:St} {H:Hp} {s:Shared}
variable {N frs:List Str} {x qual:Str} {ix:List Nat} {scope:Scope} {cl:List (Str×Addr)} {params:Arguments} {body:Expr}
section
variable {te:TE} {t:TA} {p pos kpos lpos:Pos} {e:Expr} {k:Nat} {cc P:Addr}
end
end
end L2
namespace L2
open PySem PySem.Spec PyProof.Rows
section
variable {qs:List (Nat×Nat)} {b:Nat} {st:HW}
end
noncomputable def o9 (c:Nat) (xs:List (List Nat)):List Nat:=xs.map λ r=>r.getD c 0
theorem block (c:Nat):∀ {ys:List (List Nat)} (_:(o9 c ys).Pairwise (·<=·)) (g:Nat),(ys.drop (lR (o9 c ys) g)).take ((o9 c ys).count g)=ys.filter λ r=>decide (r.getD c 0=g)
 | [],_,g=>by simp
 | r::ys,h,g=>by
  have h':(r.getD c 0::o9 c ys).Pairwise (·<=·):=h
  rw [BA] at h'
  have ih:=block c h'.2 g
  have e1:o9 c (r::ys)=r.getD c 0::o9 c ys:=rfl
  rw [e1,List.filter_cons]
  generalize hf:r.getD c 0=f at h'
  have hl:lR (f::o9 c ys) g=(if f<g then 1 else 0)+lR (o9 c ys) g:=by
   unfold lR
   rw [List.countP_cons]
   by_cases q:f<g
   ·rw [if_pos (by simpa using q),if_pos q]; lia
   ·rw [if_neg (by simpa using q),if_neg q]; lia
  rcases DU f g with q | q | q
  ·rw [hl,if_pos q,if_neg (by simpa using AB q),List.count_cons_of_ne (by simpa using AB q),E4 1,List.drop_succ_cons]
   exact ih
  ·subst q
   have z:lR (o9 c ys) f=0:=by
    unfold lR
    rw [List.countP_eq_zero]
    intro x hx
    have:=h'.1 x hx
    simpa using this
   rw [z] at ih
   rw [hl,if_neg (BC _),z,if_pos (by simp),List.count_cons_self,CH,List.take_succ_cons]
   rw [CH] at ih
   rw [ih]
  ·have z:(f::o9 c ys).count g=0:=by
    rw [List.count_eq_zero]
    intro hx
    rcases Al.mp hx with e | e
    ·lia
    ·have:=h'.1 g e; lia
   rw [z,EB,if_neg (by simpa using Cn q)]
   symm
   rw [List.filter_eq_nil_iff]
   intro x hx
   have:=h'.1 (x.getD c 0) (Ct.mpr ⟨x,hx,rfl⟩)
   simp only [decide_eq_true_eq]
   lia
section
variable {X:Cx} {o e f:Expr} {td ty tx:TE} {pos apos cpos p:Pos}
end
section
variable {X:Cx} {o tg:Expr} {td:TE} {pos apos cpos p:Pos}
end
end L2
namespace HT
open PySem PyProof.Rows PySem.W L2
section
variable {prog:Program} {w:World} {A:Around} {E:Value->Shared->Prop} {s:Shared}
end
end HT
namespace L2
open PySem PySem.Spec PyProof.Rows
section
variable {X:Cx}
end
section
variable {X:Cx} {N tgs frs:List Str} {ix:List Nat} {scope:Scope} {cl:List (Str×Addr)} {xc:Str}
end
end L2
namespace HT
open PySem PyProof.Rows PySem.W L2
structure OwnInit (K:Frag) (C:Addr) (bmB:List Value) (newId:String) (f:Addr):Prop where
 at_:∃ dd cd sl bm k0 k1 k2 k3 k5,K.lookup C=some ⟨.type "type",dd,.cls cd,sl⟩/\cd.mro=.ref C::bm/\sl.toList=[k0,k1,k2,k3,some (.builtin newId),k5]/\
  cd.hasDel=false/\tailIn K bmB bm=true/\nsOkIn K cd.ns=true/\nsIn K cd.ns "__init__" = some (some (.ref f))
 fn:typeIn K (.ref f)=some (.type "function")
theorem tY {K:Frag} {N:Addr} {m:Str->Option Value} {n:Str} {v:Value} (X:K.In h) (G:h.Ns N m) (e:nsIn K N n=some (some v)):m n=some v:=by
 obtain ⟨ob,xs,ep,h1,h2,_,h3⟩:=G
 simp only [nsIn] at e
 split at e
 ·rename_i q
  have:=X _ _ q
  rw [h1] at this
  cases this
  cases h2
  rw [<-h3]
  have k:nsFind xs n=(xs.toList.find? λ x=>x.key.isStr n).map (·.val):=by unfold nsFind findBy; rw [E2]
  rw [k]
  revert e
  cases q2:xs.toList.find? λ x=>x.key.isStr n with
  | some y=>intro e; rw [FR]; simpa using e
  | none=>intro e; dsimp only at e; split at e<;>cases e
 ·cases e
theorem OwnInit.obj {K:Frag} {bmB:List Value} {nid:String} (X:K.In h) (q:OwnInit K C bmB nid f) :
  ∃ tl N nm qn bs hd sn sub ab col dd k0 k1 k2 k3 k5 mN,h.get? C=some (excClassObj nm qn C N bs tl hd sn sub ab col dd k0 k1 k2 k3 k5 nid)/\h.Ns N mN/\mN "__init__" = some (.ref f)/\OwnTail h bmB tl:=by
 obtain ⟨dd,cd,sl,bm,k0,k1,k2,k3,k5,e1,e2,e3,e4,e5,e6,e7⟩:=q.at_
 obtain ⟨nm,bs,mro,ns,qn,hd,sn,sub,ab,col,del⟩:=cd
 dsimp only at e2 e4 e6 e7
 subst e2 e4
 obtain ⟨l⟩:=sl
 have e3:l=_:=e3
 subst e3
 have hns:=Heap.Ns.of_isNs (isNs_of_in X e6)
 exact ⟨bm,ns,nm,qn,bs,hd,sn,sub,ab,col,dd,k0,k1,k2,k3,k5,_,X _ _ e1,hns,tY X hns e7,tail_of_in X e5⟩
section
variable {prog:Program} {w:World} {A:Around} {E:Value->Shared->Prop} {h:Heap} {g:Array GenState} {d:Drawn} {t:Nat} {os:OsState}
variable {nm q:Str} {C N f:Addr} {bs bm bmB:List Value} {hdct:Bool} {sn:List Str} {sub:List Value} {ab:Bool} {col:Option Bool} {dd:Option Addr} {k0 k1 k2 k3 k5:Option Value} {B Bn newId nid initId inN:String} {bmN:List Value}
theorem gZ {K:Frag} (X:K.In h) (Fn:ExcBaseFacts Bn newId inN bmN) (hBn:bmB.contains (.type Bn)=true) (F:ExcBaseFacts B nid initId bmB) (T:OwnTail h bmB bm) {mN:Str->Option Value} {rest:List Value} {Q:Fin->Shared->Prop}
  (hC:h.get? C=some (excClassObj nm q C N bs bm hdct sn sub ab col dd k0 k1 k2 k3 k5 newId)) (hn:h.Ns N mN) (hni:mN "__init__" = some (.ref f)) (hft:typeIn K (.ref f)=some (.type "function"))
  (hq:wpAny (model prog w) A (call (.ref f) (.ref (h.objs.size+1)::rest)) (λ v s'=>v=.none/\Q (.done (.ret (.ref (h.objs.size+1)))) s') E ⟨(h.push { cls:=.type "tuple",data:=.seq rest.toArray }).push { cls:=.ref C,data:=.fields #[.ref h.objs.size,.none,.none,.none,.bool false,.none] },g,d,t,os⟩) (hrest:rest.length<=sizeLine:=by size_fits) :
  wpAny (model prog w) A (Builtin.«type.__call__» ⟨.ref C::rest,[]⟩) Q E ⟨h,g,d,t,os⟩:=by
 repeat (first | with_reducible refine wpAny_loadPart_at hC ?_ | with_reducible refine wpAny_madeBy_exc hC ?_ | wp_step)
 refine codeAny_call_builtin_code (DI _ Fn.quiet) (wpAny_check_new_subU Fn hBn T hC ?_)
 refine codeAny_exc_new_subU Fn hBn F T hC ?_ hrest
 show wpAny _ _ _ _ _ _
 have kp:∀ b o,h.get? b=some o->((h.push { cls:=.type "tuple",data:=.seq rest.toArray }).push { cls:=.ref C,data:=.fields #[.ref h.objs.size,.none,.none,.none,.bool false,.none] }).get? b=some o:=λ b o e=>Aj _ (Aj _ e)
 have hC₁:=kp _ _ hC
 have hn₁:((h.push { cls:=.type "tuple",data:=.seq rest.toArray }).push { cls:=.ref C,data:=.fields #[.ref h.objs.size,.none,.none,.none,.bool false,.none] }).Ns N mN:=
  let ⟨o,es,ep,e,r⟩:=hn; ⟨o,es,ep,kp _ _ e,r⟩
 have hget:((h.push { cls:=.type "tuple",data:=.seq rest.toArray }).push
   { cls:=.ref C,data:=.fields #[.ref h.objs.size,.none,.none,.none,.bool false,.none] }).get? (h.objs.size+1)=some
   { cls:=.ref C,data:=.fields #[.ref h.objs.size,.none,.none,.none,.bool false,.none] }:=by heap_get
 have hcC:(Aw C::bm).contains (.ref C)=true:=by simp
 have T₁:=T.keeps (h':=(h.push { cls:=.type "tuple",data:=.seq rest.toArray }).push { cls:=.ref C,data:=.fields #[.ref h.objs.size,.none,.none,.none,.bool false,.none] }) kp
 unfold isInstance
 repeat (first | with_reducible refine wpAny_loadPart_at hget ?_ | (with_reducible refine wpAny_isSubtype_exc hC₁ ?_; rw [hcC]) | wp_step)
 show wpAny _ _ (typeLookup (.ref C) _) _ _ _
 refine wpAny_typeLookup_tail hC₁ hn₁ T₁ F.mroIs F.init.lookup ?_
 rw [hni]
 refine wpAny_holding (wpAny_bind ((bind_fn (X.keeps kp) (.ref (h.objs.size+1)) hft) A _ _ _ (λ b o e=>e) ?_))
 refine wpAny_bind (wpAny_mono hq (λ v s' ⟨hv,hQ⟩=>?_) λ _ _ z=>z)
 subst hv
 refine wpAny_pure ?_
 show wpAny _ _ (ret (Aw (h.objs.size+1))) _ _ _
 exact wpAny_pure hQ
theorem n6 {K:Frag} (X:K.In h) (Fn:ExcBaseFacts Bn newId inN bmN) (hBn:bmB.contains (.type Bn)=true) (F:ExcBaseFacts B nid initId bmB) (T:OwnTail h bmB bm) {mN:Str->Option Value} {rest:List Value} 
  (hC:h.get? C=some (excClassObj nm q C N bs bm hdct sn sub ab col dd k0 k1 k2 k3 k5 newId)) (hn:h.Ns N mN) (hni:mN "__init__" = some (.ref f)) (hft:typeIn K (.ref f)=some (.type "function"))
  (hq:wpAny (model prog w) (A.under (.builtin "type.__call__" ⟨.ref C::rest,[]⟩)) (call (.ref f) (.ref (h.objs.size+1)::rest)) (λ v s'=>v=.none/\Q (.ref (h.objs.size+1)) s') E ⟨(h.push { cls:=.type "tuple",data:=.seq rest.toArray }).push { cls:=.ref C,data:=.fields #[.ref h.objs.size,.none,.none,.none,.bool false,.none] },g,d,t,os⟩) (hrest:rest.length<=sizeLine:=by size_fits) :
  wpAny (model prog w) A (call (.ref C) rest) Q E ⟨h,g,d,t,os⟩:=by
 have f1:=tc_lookup
 have f2:=tc_bind (.ref C)
 have hT:(⟨h,g,d,t,os⟩:Shared).TypeIs (.ref C) "type":=⟨_,hC,rfl⟩
 refine wpAny_call (codeAny_of_tree ?_)
 show wpAny _ _ (callAny (.ref C) _) _ _ _
 repeat (any_goals (first | assumption | with_reducible refine wpAny_loadPart_at hC ?_ | wp_step))
 refine ⟨rfl,?_⟩
 refine codeAny_call_builtin_at (DI _ (by decide +kernel)) entry_typeCall (wpAny_check_type_call_sub hC (gZ (hrest:=hrest) X Fn hBn F T hC hn hni hft ?_))
 exact hq
end
section
variable {M:Model} {A:Around} {E:Value->Shared->Prop} {env:Env}
variable {nm q:Str} {C N:Addr} {bs bm:List Value} {hdct:Bool} {sn:List Str} {sub:List Value} {ab:Bool} {col:Option Bool} {dd:Option Addr} {k0 k1 k2 k3 k5:Option Value} {newId:String}
theorem n8 {s:Shared} {x:Sem Value} {Q:Flow->Shared->Prop} (hb:bm.contains (.type "BaseException")=true) (hh:A.handled=none)
  (h:wpAny M A x (λ v s₁=>∃ e t dx,v=.ref e/\s₁.heap.get? C=some (excClassObj nm q C N bs bm hdct sn sub ab col dd k0 k1 k2 k3 k5 newId)/\
   s₁.heap.get? e=some { cls:=.ref C,dict:=dx,data:=.fields #[.ref t,.none,.none,.none,.bool false,.none] }/\E (.ref e) s₁) E s):wpAny M A (raiseStmt env (some x) none) Q E s:=by
 have hc:(Aw C::bm).contains (.type "BaseException")=true:=by rw [Fb,hb,E5]
 unfold raiseStmt
 refine wpAny_bind (wpAny_mono h (λ v s₁ h₁=>?_) λ _ _ z=>z)
 obtain ⟨e,t,dx,rfl,hC,he,hE⟩:=h₁
 obtain ⟨hp,g,d,tk,os⟩:=s₁
 repeat (first | with_reducible refine wpAny_loadPart_at he ?_ | with_reducible refine wpAny_loadPart_at hC ?_ | (with_reducible refine wpAny_isSubtype_exc hC ?_; rw [hc]) | wp_step)
 exact wpAny_raiseNew_none hh hE
end
end HT
namespace L2
open PySem PySem.Spec PyProof.Rows
section
variable {P:Program} {w:World} {K:Ae} {mg:Str->Option Value} {base:Heap} {N:List Str} {qual:Str} {scope:Scope} {f:Addr} {cd:Value} {A:Around} {outer:List Env} {s0:Shared} {H0:Hp} {E:XK}
noncomputable def xTo (E:XK) (t:TX):TS:=λ D σ H=>t D (λ C d _ H'=>E (.ref C) d H') σ H
theorem tZ {sts:List Stmt} {t:TX} (h:QXs (gP (CXE P w) P w K mg base N qual scope f cd A outer s0 H0 E).nox sts t):QB (gP (CXE P w) P w K mg base N qual scope f cd A outer s0 H0 E) sts (xTo E t):=
 ⟨λ pins s1 σ H1 D I q=>wpAny_mono (h.out pins s1 σ H1 D _ (I.wish _) q) (λ _ _ z=>z.unwish) λ ev s' z=>XP.leave z⟩
theorem n9 {sts:List Stmt} {t:TX} (hi:QI (gP (CXE P w) P w K mg base N qual scope f cd A outer s0 H0 E) tg iter wi) (hg:QG (gP (CXE P w) P w K mg base N qual scope f cd A outer s0 H0 E) tg g)
  (hb:QXs (gP (CXE P w) P w K mg base N qual scope f cd A outer s0 H0 E).nox sts t) (hs:∀ x,foldedSetIterable iter (gP (CXE P w) P w K mg base N qual scope f cd A outer s0 H0 E).env x=pure x:=by intro _; rfl) :
  QS (gP (CXE P w) P w K mg base N qual scope f cd A outer s0 H0 E) (.For tg iter sts [] pos) (wF wi g (xTo E t)):=cy HH rfl hi hg (tZ hb) hs
theorem Fun.okL {st:Stmt} {fd:FuncData} {ps:List Str} {sp:Sp} (F:Fun K x qual st f fd) (S:FnScope N ps (ap st)) (len:∀ vs H Q E,sp vs H Q E->vs.length=ps.length)
  (hbody:∀ (cdv:Value) (A:Around) (outer:List Env) (s:Shared) (H:Hp) (vs:List V) (Q:VK) (E:XK),Room k (A.deeper (envOfC qual (ap st) s.heap.objs.size f cdv))->sp vs H Q E->
   ∃ t,QB (gP (CXE P w) P w K mg base N qual (ap st) f cdv A outer s H E) (cZ st) t/\t { nx:=λ _ H'=>Q .non H',rt:=Q } (bc N vs) H):FnOk P w K mg base (CXE P w) (k+1) f fd ps sp:=by
 obtain ⟨oc,od,kV,doc,pm,an,cdv,ct,osl,rfl,lk,hcd⟩:=F.ex
 refine sv lk hcd S len λ A outer s H vs Q E hr hsp=>?_
 obtain ⟨t,h,q⟩:=hbody cdv A outer s H vs Q E hr hsp
 exact ⟨t,h.out,q⟩
end
end L2
namespace HT
open PySem PyProof.Rows PySem.W L2
section
variable {prog:Program} {w:World} {A:Around} {E:Value->Shared->Prop} {h:Heap} {g:Array GenState} {d:Drawn} {t:Nat} {os:OsState}
variable {C f e t0:Addr} {K:Frag} {dx:Option Addr} {u:Value}
noncomputable def dU (C t0:Addr) (dx:Option Addr):Obj:={ cls:=.ref C,dict:=dx,data:=.fields #[.ref t0,.none,.none,.none,.bool false,.none] }
theorem l6 (X:K.In h) (q:OwnInit K C veB "ValueError.__new__" f) (he:h.get? e=some (dU C t0 dx))
  (hq:∀ h',(∀ b o,b≠e->h.get? b=some o->h'.get? b=some o)->h'.get? e=some (dU C h.objs.size dx)->Q .none ⟨h',g,d,t,os⟩) :
  wpAny (model prog w) A (call (.builtin "ValueError.__init__") [.ref e,u]) Q E ⟨h,g,d,t,os⟩:=by
 obtain ⟨tl,N,nm,qn,bs,hdd,sn,sub,ab,col,dd,k0,k1,k2,k3,k5,mN,hC,hN,hni,T⟩:=q.obj X
 have F:=Cm
 refine wpAny_call (codeAny_call_builtin F.init.plain F.initEntry (wpAny_check_init_subU F T hC he rfl ?_))
 unfold dU at he
 wp_walk
 refine hq _ (λ b o hb e1=>?_) ?_
 ·rw [CA _ _ (AV hb)]
  exact Aj _ e1
 ·rw [BS _ (Aj _ he) rfl]
  rfl
noncomputable def gI:List Value->Bool
 | .ref _::r=>gI r
 | l=>l == veB
theorem ij (self:Value):∀ {l:List Value},gI l=true->refuseLoop self "__setattr__" l=pure ()
 | [],e=>by cases e
 | c::r,e=>by
  cases c
  case ref a=>rw [refuseLoop_ref]; exact ij self (l:=r) e
  all_goals
   have z:=beq_iff_eq.mp (show (_::r == veB)=true from e)
   rw [z]; exact F.store_ValueError.passes self
theorem gJ:∀ {l:List Value},gI l=true->l.contains (.type "object")=true
 | [],e=>by cases e
 | c::r,e=>by
  cases c
  case ref a=>rw [Fb,gJ (l:=r) e,E5]
  all_goals
   have z:=beq_iff_eq.mp (show (_::r == veB)=true from e)
   rw [z]; rfl
structure XSt (K:Frag) (C:Addr) (name:Str):Prop where
 sa:findIn K (.ref C) "__setattr__" = some (some (.builtin "object.__setattr__"))
 over:(clsIn K C).any (λ cd=>gI cd.mro)=true
 no:findIn K (.ref C) name=some none
 hd:(clsIn K C).any (·.hasDict)=true
theorem qu {v:Value} {Q:Unit->Shared->Prop} (X:K.In h) (c:XSt K C name) (hx:h.get? e=some (dU C t0 none))
  (hq:∀ h' tk,h'.get? e=some (dU C t0 (some h.objs.size))->h'.Ns1 h.objs.size (λ y=>if y=name then some v else none)->(∀ b o,b≠e->h.get? b=some o->h'.get? b=some o)->Q () ⟨h',g,d,tk,os⟩) :
  wpAny (model prog w) A (setAttr (.ref e) name v) Q E ⟨h,g,d,t,os⟩:=by
 have I:InstAt h e (dU C t0 none) C none:=⟨hx,rfl,rfl,trivial⟩
 refine set_plain (s:=⟨h,g,d,t,os⟩) X I c.sa ?_
 obtain ⟨cd,hc,ho⟩:=any_some c.over
 obtain ⟨cd',hc',hdd⟩:=any_some c.hd
 rw [hc] at hc'; cases hc'
 have SF:=PySem.F.store_object
 have ne:cd.mro.isEmpty=false:=by cases q:cd.mro with | nil=>rw [q] at ho; cases ho | cons _ _=>rfl
 have sub:Looks (model prog w) h (isInstance (.ref e) (.type "object")) true:=I.type.andThen (looks_mroIn X (by unfold mroIn; rw [hc,Option.bind_some,if_neg (by rw [ne]; decide),gJ ho]))
 refine codeAny_call_builtin SF.slot.plain SF.entry (@check_slot (model prog w) _ _ ⟨h,g,d,t+1,os⟩ "object.__setattr__" "object" "__setattr__" (.ref e) [.str name t,v] [] _ SF.kind SF.split sub (SF.args (.ref e) (.str name t) v) ?_)
 have hm:Looks (model prog w) h (mroOf (.ref C)) cd.mro:=(looks_clsIn X hc).andThen .now
 rw [osa_eq,refuse_eq]
 refine wpAny_bind (wpAny_bind (Looks.here (s:=⟨h,g,d,t+1,os⟩) I.type (wpAny_bind (Looks.here (s:=⟨h,g,d,t+1,os⟩) hm ?_))))
 rw [ij _ ho]
 refine wpAny_pure (wpAny_bind (Looks.here (s:=⟨h,g,d,t+1,os⟩) I.type (wpAny_bind (Looks.here (s:=⟨h,g,d,t+1,os⟩) (looks_findIn X c.no) (wpAny_bind (wpAny_pure ?_))))))
 refine wpAny_bind (wpAny_pure (wpAny_bind (wpAny_bind (wpAny_loadPart hx (wpAny_bind (Looks.here (s:=⟨h,g,d,t+1,os⟩) (looks_clsIn X hc) ?_))))))
 rw [hdd]
 have hx1:(h.push { cls:=.type "dict",data:=.dict #[] }).get? e=some (dU C t0 none):=Aj _ hx
 have hxs:e≠h.objs.size:=AB (Am hx)
 refine wpAny_bind (wpAny_alloc' (wpAny_bind (wpAny_update' hx1 (wpAny_pure ?_))))
 have hgd:((h.push { cls:=.type "dict",data:=.dict #[] }).update e λ o=>{ o with dict:=some h.objs.size }).get? h.objs.size=some { cls:=.type "dict",data:=.dict #[] }:=
  (CQ _ _ _ _ hxs.symm).trans (Heap.get?_push_at rfl rfl)
 have hnd:((h.push { cls:=.type "dict",data:=.dict #[] }).update e λ o=>{ o with dict:=some h.objs.size }).Ns h.objs.size (λ _=>none):=
  ⟨_,#[],_,hgd,rfl,λ e he=>absurd he (by simp),λ _=>rfl⟩
 have hx2:((h.push { cls:=.type "dict",data:=.dict #[] }).update e λ o=>{ o with dict:=some h.objs.size }).get? e=some (dU C t0 (some h.objs.size)):=BS _ hx1 rfl
 refine wpAny_bind (wpAny_pure (wpAny_bind (wpAny_nsSet1 (s:=⟨(h.push { cls:=.type "dict",data:=.dict #[] }).update e λ o=>{ o with dict:=some h.objs.size },g,d,t+1,os⟩) (Fe hnd) λ h' hn' hs=>?_)))
 obtain ⟨oD,esD,epD,hoD,hdD,hcD⟩:=hn'.count (Within.cons name v Within.nil)
 refine wpAny_bind (wpAny_lookBehind hoD (by rw [hdD]; exact pastItsLine_dict (Bg hcD (by rw [Az,A9,sizeLine_eq]; lia))) ?_)
 refine wpAny_pure ?_
 exact hq h' _ ((hs.2 e hxs).trans hx2) hn' λ b o hb e1=>(hs.2 b (AB (Am e1))).trans ((CQ _ _ _ _ hb).trans (Aj _ e1))
structure SupI (K:Frag) (S:Addr):Prop where
 ga:specialIn K (.ref S) "__getattribute__" = some (some (.builtin "type.__getattribute__"))
 rd:readsIn K S (.type "type")=true
 fd:findCls K (.ref S) (.type "type") "__init__" = some (.val (.builtin "ValueError.__init__"))
theorem t5 {S:Addr} {pl:Sem Bool} {s:Shared} {Q:Value×List Value->Shared->Prop} (X:K.In s.heap) (c:SupI K S) (h:Q (.builtin "ValueError.__init__",[]) { s with toks:=s.toks+1 }) :
  wpAny (model prog w) A (getMethod (.ref S) "__init__" pl) Q E s:=method_cls X c.ga (cls_value X c.rd c.fd rfl h)
theorem l7 {tk:Tok} {o:Obj} {v:Value} {Q:Fin->Shared->Prop} (X:K.In h) (c:XCl K C) (no:findIn K (.ref C) name=some none) (hdc:hasDictIn K C=true)
  (I:∃ od,InstAt h e o C (some od)/\lookIn name od=some (some v)) (hq:Q (.done (.ret v)) ⟨h,g,d,t,os⟩) :
  wpAny (model prog w) A (Builtin.«object.__getattribute__» ⟨[.ref e,.str name tk],[]⟩) Q E ⟨h,g,d,t,os⟩:=by
 obtain ⟨od,I,hl⟩:=I
 have L0:=I.type (M:=model prog w)
 have L2:=looks_find (M:=model prog w) X I (findObj_own hdc no rfl hl)
 repeat (any_goals (first | assumption | with_reducible refine Looks.at L0 ?_ | with_reducible refine Looks.at L2 ?_ | wp_step))
theorem t6 {tk:Tok} {fill expr:Bool} {o:Obj} {v:Value} (X:K.In h) (c:XCl K C) (no:findIn K (.ref C) name=some none) (hdc:hasDictIn K C=true)
  (I:∃ od,InstAt h e o C (some od)/\lookIn name od=some (some v)) (hh:handedIn v=true) (hq:Q v ⟨h,g,d,t,os⟩) :
  wpAny (model prog w) A (getAttrBy (.ref e) (.str name tk) fill expr) Q E ⟨h,g,d,t,os⟩:=by
 obtain ⟨od,J,hl⟩:=id I
 have L0:=J.type (M:=model prog w)
 have L1:=looks_findIn (M:=model prog w) X c.ga
 have L2:=looks_findIn (M:=model prog w) X c.gt
 have L3:=looks_mroIn (M:=model prog w) X c.mb
 have sl:=Ft.ga
 have bnd:=sl.bind (.ref e)
 have ne:(onTheHeap (Aw C) && B3 "BaseException.__getattribute__" == B3 "object.__getattribute__")=false:=by
  rw [show (B3 "BaseException.__getattribute__" == B3 "object.__getattribute__")=false from by decide +kernel,EE]
 have nx:(expr && onTheHeap (B3 "BaseException.__getattribute__"))=false:=EE _
 have hho:=handedOut_of hh
 repeat (any_goals (first | assumption | with_reducible refine Looks.at L0 ?_ | with_reducible refine Looks.at L1 ?_ | with_reducible refine Looks.at L2 ?_ | wp_step))
 refine codeAny_call_builtin sl.plain FZ (kM X c J.at_ J.cls (l7 X c no hdc I ?_))
 repeat (any_goals (first | assumption | wp_step))
theorem zS {expr:Bool} {o:Obj} {v:Value} (X:K.In h) (c:XCl K C) (no:findIn K (.ref C) name=some none) (hdc:hasDictIn K C=true)
  (I:∃ od,InstAt h e o C (some od)/\lookIn name od=some (some v)) (hh:handedIn v=true) (hq:Q v ⟨h,g,d,t+1,os⟩) :
  wpAny (model prog w) A (getAttr (.ref e) name expr) Q E ⟨h,g,d,t,os⟩:=wpAny_bind (wpAny_mkText (t6 X c no hdc I hh hq))
end
end HT
namespace L2
open PySem PySem.Spec PyProof.Rows PySem.W
noncomputable def hJ (e C:Addr) (d:Option Addr):HO:=.ext λ h=>∃ t0,h.get? e=some (HT.dU C t0 d)
theorem j6 {w:World} {H:Hp} {e t0:Addr} {d:Option Addr} (he:h.get? e=some (HT.dU C t0 d)):ObjOk P w H h e (hJ e C d):=
 ⟨⟨t0,he⟩,⟨_,he⟩,λ h1 h2 ⟨t,z⟩ k=>⟨t,k _ z⟩⟩
noncomputable def zk (K:Frag) (t:TA):TE:=λ σ H Q=>t σ H λ vs H1=>∃ e C f d y,vs=[.ref e,y]/\H1 e=some (hJ e C d)/\HT.OwnInit K C veB "ValueError.__new__" f/\Q .non H1
noncomputable def wg (K:Frag) (ta tv:TE) (f:Str):TS:=λ D σ H=>tv σ H λ y H1=>ta σ H1 λ x H2=>∃ e C,x=.ref e/\H2 e=some (hJ e C none)/\HT.XSt K C f/\∀ dx,H2 dx=none->dx≠e->
 D.nx σ (upd (upd H2 dx (.xd [(f,y)])) e (hJ e C (some dx)))
section
variable {X:Cx} {o value e:Expr} {es:List Expr} {f x:Str} {pos pos' apos np:Pos} {ta tv:TE} {t:TA} {S:Addr}
theorem wj {K:Frag} {pl:Sem Bool} (hg:Gl X x) (hm:X.mg x=some (.ref S)) (c:HT.SupI X.K S) (ha:QA X (e::es) t)
  (hst:starEach (e::es) X.env=(false,eval e X.env)::starEach es X.env:=by rfl) (hpl:(backTo pos (starEach es X.env)).any (·.1)=false:=by rfl) (hd:(x == ("__debug__" : Str))=false:=by decide)
  (ht:eval (.Call (.Attribute (.Name x np) "__init__" apos) (e::es) [] pos) X.env=(do
   let ov <-eval (.Name x np) X.env
   standAt apos.atName
   let (f,first) <-holding [ov] (getMethod ov "__init__" pl)
   callWith pos f first (backTo pos (starEach (e::es) X.env)) (backToKw pos (keywordEach [] X.env))):=by rfl) (hK:X.K=K:=by rfl) :
  QE X (.Call (.Attribute (.Name x np) "__init__" apos) (e::es) [] pos) (zk K t):=⟨by
 subst hK
 intro pins s σ H Q I h
 refine Dj (pl:=pl) (dL I hg hm ?_ hd) ht
 refine HT.t5 I.kIn c ?_
 refine Dp (thn (ha.out pos pins _ σ H _ (I.tok _) h) λ us s2 ⟨vs,H2,I2,r,q2⟩=>?_) hst hpl
 obtain ⟨ea,C,f,d,y,rfl,he,oi,q⟩:=q2
 cases r with
 | cons rx rr=>
  cases rr with
  | cons ry rr=>
   cases rr
   cases rx
   obtain ⟨⟨t0,hx⟩,_⟩:=(show ObjOk X.prog X.w H2 s2.heap ea (hJ ea C d) from I2.hok ea _ he)
   obtain ⟨hp,g,dr,tk,os⟩:=s2
   refine HT.l6 I2.kIn oi hx λ h' k1 k2=>?_
   have J:=I2.write (x:=ea) (e:=ea) (o:=hJ ea C d) (h':=h') (t':=tk) (by rw [he]; exact AK) (.inl rfl) (λ b u hb z=>k1 b u hb z) ⟨_,k2⟩ (j6 k2)
   have eH:upd H2 ea (hJ ea C d)=H2:=by
    funext b
    by_cases z:b=ea
    ·subst z; rw [aa,he]
    ·rw [aj z]
   rw [eH] at J
   exact ⟨.non,H2,J,rfl,q⟩⟩
theorem t7 {K:Frag} (ha:QE X o ta) (hv:QE X value tv) (hs:swapsWith value (some (.Attribute o f pos')) pos.line X.env=pure false:=by rfl) (hK:X.K=K:=by rfl):QS X (.Assign [.Attribute o f pos'] value pos) (wg K ta tv f):=⟨by
 subst hK
 intro pins s σ H D I h
 refine plainObj_wpAny_Assign_Attribute (thn (hv.out pins s σ H _ I h) λ u s1 ⟨y,H1,I1,ry,q⟩=>thn (ha.out pins s1 σ H1 _ I1 q) λ ov s2 ⟨x,H2,I2,rx,ea,C,ex,he,c,q2⟩=>?_) hs
 subst ex
 cases rx
 obtain ⟨⟨t0,hx⟩,_⟩:=(show ObjOk X.prog X.w H2 s2.heap ea (hJ ea C none) from I2.hok ea _ he)
 obtain ⟨hp,g,dr,tk,os⟩:=s2
 refine HT.qu I2.kIn c hx λ h' tk' k2 hn k1=>?_
 have hnew:H2 hp.objs.size=none:=I2.hok.fresh (Ai _)
 have hne:hp.objs.size≠ea:=λ z=>by rw [z,he] at hnew; cases hnew
 obtain ⟨oD,esD,epD,hoD,rD⟩:=id hn
 have hg:(hp.push oD).get? hp.objs.size=some oD:=AW _ (Fa.mp hoD).2
 have J1:=I2.laid (a:=hp.objs.size) (o:=.xd [(f,y)]) (h':=hp.push oD) (t':=tk') (λ b u z=>Aj _ z) (Ai _)
  ⟨_,hn.at λ o z=>by rw [hoD] at z; cases z; exact hg,λ z=>by
   show RelO (Br z [(f,y)]) (if z=f then some u else none)
   by_cases zz:z=f
   ·subst zz
    have q:Br z [(z,y)]=some y:=by simp [Br]
    rw [if_pos rfl,q]; exact ry
   ·rw [if_neg zz]
    have:(z == f)=false:=beq_eq_false_iff_ne.mpr zz
    simp [Br,this,RelO]⟩
 have he1:upd H2 hp.objs.size (.xd [(f,y)]) ea=some (hJ ea C none):=by rw [aj (AV hne)]; exact he
 have J2:=J1.write (x:=ea) (e:=ea) (o:=hJ ea C (some hp.objs.size)) (h':=h') (t':=tk') (by rw [he1]; exact AK) (.inl rfl) (λ b u hb z=>by
  by_cases q:b=hp.objs.size
  ·subst q
   rw [show (hp.push oD).get? hp.objs.size=some oD from hg] at z; cases z; exact hoD
  ·have z:(hp.push oD).get? b=some u:=z
   exact k1 b u hb ((B2 _ _ _ q).symm.trans z)) ⟨_,k2⟩ (j6 k2)
 exact ⟨σ,_,J2,q2 _ hnew hne⟩⟩
end
noncomputable def del (H:Hp) (a:Addr):Hp:=λ b=>if b=a then none else H b
theorem kW {H:Hp} :del H a a=none:=by unfold del; rw [if_pos rfl]
theorem eI {H:Hp} (h:b≠a):del H a b=H b:=by unfold del; rw [if_neg h]
noncomputable def og (C:Addr) (sp:Sp) (t:TA):TX:=λ _ Ex σ H=>t σ H λ vs H1=>vs.length<=sizeLine/\∀ e,H1 e=none->sp (.ref e::(vs++[])) (upd H1 e (hJ e C none)) (λ v H2=>v=.non/\∃ d,H2 e=some (hJ e C d)/\Ex C d σ (del H2 e)) λ _ _ _=>False
section
variable {X:Cx} {pins:List (Addr×Obj)} {σ:St} {H:Hp} {s:Shared}
theorem Inv.drop {φ:Heap->Prop} (I:Inv X pins σ H s) (he:H a=some (.ext φ)):Inv X pins σ (del H a) s:=by
 have dn:∀ b,H b=none->del H a b=none:=λ b z=>by unfold del; split<;>first | rfl | exact z
 refine ⟨I.ok,I.os,I.bare,⟨I.base.keep,I.base.slot,λ b ob q n hx=>dn _ (I.base.free b ob q n hx),I.base.there,λ b xs q=>?_,λ b ob u q=>?_,λ b ps q=>?_⟩,I.loc,I.cell,dn _ I.free,λ x c q=>dn _ (I.freeC x c q),λ p hp'=>?_,λ b u q=>?_,I.len⟩
 ·have z:=I.base.tups b xs q
  rw [eI (λ y=>by rw [y,he] at z; cases z)]; exact z
 ·have z:=I.base.frzs b ob u q
  rw [eI (λ y=>by rw [y,he] at z; cases z)]; exact z
 ·obtain ⟨more,z⟩:=I.base.tbls b ps q
  exact ⟨more,by rw [eI (λ y=>by rw [y,he] at z; cases z)]; exact z⟩
 ·obtain ⟨a1,a2,a3⟩:=I.pin p hp'
  exact ⟨a1,dn _ a2,a3⟩
 ·have hb:b≠a:=λ z=>by rw [z,kW] at q; cases q
  rw [eI hb] at q
  exact (I.hok b u q).stay (λ _ _ _ z=>z) (λ c z=>by rw [eI (λ y=>by rw [y,he] at z; cases z)]; exact z) λ c xs z=>by rw [eI (λ y=>by rw [y,he] at z; cases z)]; exact z
end
section
variable {X:Cx} {e:Expr} {es:List Expr} {t:TA} {np cpos pos p:Pos} {x:Str} {C f:Addr}
theorem jz {fd:FuncData} {ps:List Str} {sp:Sp} (oi:HT.OwnInit X.K C veB "ValueError.__new__" f) (Fi:FnOk X.prog X.w X.K X.mg X.base CX0 k f fd ps sp) (hr:Room (k+1) X.A) (hb:Binds X.K fd ps []) (hkp:keepIn X.K (.ref C)=true) (hg:Gl X x) (hm:X.mg x=some (.ref C)) (hcalm:X.calm=true) (ha:QA X (e::es) t)
  (hn:(e::es).all cA=true:=by rfl) (hd:(x == ("__debug__" : Str))=false:=by decide) (hex:X.ex=[]:=by rfl) (hx:∀ e s,X.xe e s->False:=by intro _ _ z; exact z) :
  QX X (.Raise (some (.Call (.Name x np) (e::es) [] cpos)) none pos) (og C sp t):=⟨by
 rw [B9,AZ] at hn
 intro pins s σ H D Ex I h
 obtain ⟨tl,N,nm,qn,bs,hdd,sn,sub,ab,col,dd,k0,k1,k2,k3,k5,mN,hC,hN,hni,T⟩:=oi.obj I.ok.mod.kin
 rw [arm_exec_Raise]
 simp only [evalOpt,Option.map]
 refine wpAny_bind (wpAny_standAt (HT.n8 (C:=C) (N:=N) (nm:=nm) (q:=qn) (bs:=bs) (bm:=tl) (hdct:=hdd) (sn:=sn) (sub:=sub) (ab:=ab) (col:=col) (dd:=dd) (k0:=k0) (k1:=k1) (k2:=k2) (k3:=k3) (k5:=k5) (newId:="ValueError.__new__") (T.hasType Cm.hasBase) (I.ok.hd hcalm) ?_))
 refine wpAny_bind (wpAny_Call_Name_kw (dL I hg hm ?_ hd))
 refine B6 (h₀:=X.base) I.ok.mod.kin hkp (wpAny_mono (ha.out cpos pins s σ H _ I h) (λ us s1 ⟨vs,H1,I1,r,hlen,q⟩=>⟨I1.kIn,?_⟩) λ e s z=>(hx e s z).elim) (aB hn.1) (dj hn.2)
 have e1:((s1.heap.push { cls:=.type "tuple",data:=.seq us.toArray }).push { cls:=.ref C,data:=.fields #[.ref s1.heap.objs.size,.none,.none,.none,.bool false,.none] }).get? (s1.heap.objs.size+1)=some (HT.dU C s1.heap.objs.size none):=by
  have:=AW (s1.heap.push { cls:=.type "tuple",data:=.seq us.toArray }) (o:={ cls:=.ref C,data:=.fields #[.ref s1.heap.objs.size,.none,.none,.none,.bool false,.none] }) rfl
  rwa [CF] at this
 have hfr:H1 (s1.heap.objs.size+1)=none:=I1.hok.fresh (BO _)
 have I2:=I1.laid (a:=s1.heap.objs.size+1) (o:=hJ (s1.heap.objs.size+1) C none) (h':=(s1.heap.push { cls:=.type "tuple",data:=.seq us.toArray }).push { cls:=.ref C,data:=.fields #[.ref s1.heap.objs.size,.none,.none,.none,.bool false,.none] }) (t':=s1.toks) (λ b u z=>Aj _ (Aj _ z)) (BO _) (j6 e1)
 have hq:=q (s1.heap.objs.size+1) hfr
 have r2:Vals (HU (s1.heap.objs.size+1)::(vs++[])) (Aw (s1.heap.objs.size+1)::(us++[])):=.cons rfl (r.append .nil)
 have hl:(Aw (s1.heap.objs.size+1)::us++[]).length=ps.length:=by
  have e:=r2.length
  rw [Fi.len _ _ _ _ hq] at e
  exact e.symm
 refine HT.n6 (h:=s1.heap) (g:=s1.gens) (d:=s1.drawn) (t:=s1.toks) (os:=s1.os) I1.kIn Cm Cm.hasB Cm (T.keeps I1.bk) (I1.bk _ _ hC) (hN.keeps I1.bk) hni oi.fn ?_ (by show us.length<=sizeLine; rw [<-r.length]; exact hlen)
 refine wpAny_call (codeAny_mono (Fi.run _ X.stack _ _ ⟨Aw (s1.heap.objs.size+1)::us,[]⟩ (Aw (s1.heap.objs.size+1)::(us++[])) _ _ _ (hr.make C us [])
  (I2.env0.make C us []) (by have:=hb _ (Aw (s1.heap.objs.size+1)::us) I2.kIn hl; exact this) r2 hq) λ rr s' hq'=>?_)
 cases rr with
 | error e=>exact A7 hq'
 | ok fl=>
  cases fl with
  | ret u=>
   obtain ⟨v,H',I3,rv,ev,d,hd',ex⟩:=I2.after hq'
   subst ev
   obtain ⟨⟨t0,hx3⟩,_⟩:=(show ObjOk X.prog X.w H' s'.heap (s1.heap.objs.size+1) (hJ (s1.heap.objs.size+1) C d) from I3.hok _ _ hd')
   refine ⟨rv,wpAny_bind (wpAny_standAt (wpAny_pure ⟨s1.heap.objs.size+1,t0,d,rfl,I3.bk _ _ hC,hx3,?_⟩))⟩
   refine ⟨s1.heap.objs.size+1,C,d,σ,del H' (s1.heap.objs.size+1),rfl,ex,.inr (.inr ⟨?_,I3.drop hd',_,_,.ref t0,hx3,rfl,rfl,rfl,rfl,kW,?_,λ p hp z=>?_⟩)⟩
   ·cases d with
    | none=>trivial
    | some dx=>exact ⟨_,hx3,rfl⟩
   ·cases q0:X.s₀.heap.get? (s1.heap.objs.size+1) with
    | none=>rfl
    | some o=>
     obtain ⟨o',z⟩:=I1.base.there _ o q0 (by rw [hex]; simp)
     exact absurd (Am z) (Hi.mpr (BO _))
   ·have:=Am (I1.pin p hp).1
    rw [z] at this
    exact absurd this (Hi.mpr (BO _))
  | next=>exact A7 hq'
  | brk=>exact A7 hq'
  | cont=>exact A7 hq'⟩
noncomputable def wk (K:Frag) (te:TE) (f:Str):TE:=λ σ H Q=>te σ H λ x H1=>∃ a C dx fs v,x=.ref a/\H1 a=some (gW a C (some dx))/\H1 dx=some (.xd fs)/\XCl K C/\findIn K (.ref C) f=some none/\hasDictIn K C=true/\fs.lookup f=some v/\Q v H1
theorem oh {K:Frag} {o:Expr} {nm:Str} (he:QE X o te) (hb:attributeBase o nm X.env (eval o X.env)=eval o X.env:=by rfl) (hK:X.K=K:=by rfl):QE X (.Attribute o nm pos) (wk K te nm):=⟨by
 subst hK
 intro pins s σ H Q I h
 refine mE hb (thn (he.out pins s σ H _ I h) λ u s1 ⟨x,H1,I1,rx,a,C,dx,fs,v,ex,ea,ed,c,no,hdc,l,q⟩=>?_)
 subst ex
 cases rx
 obtain ⟨⟨o,vs,p1,p2,p3,p4⟩,_⟩:=(show ObjOk X.prog X.w H1 s1.heap a (gW a C (some dx)) from I1.hok a _ ea)
 obtain ⟨mA,hn,hrel⟩:=(show ObjOk X.prog X.w H1 s1.heap dx (.xd fs) from I1.hok dx _ ed)
 obtain ⟨od,hod,hl⟩:=jb hn
 have hv:=hrel nm
 rw [l] at hv
 cases hm:mA nm with
 | none=>rw [hm] at hv; exact hv.elim
 | some u'=>
  rw [hm] at hv
  obtain ⟨hp,g,dr,tk,os⟩:=s1
  have hd:=p4 dx rfl
  refine HT.zS I1.kIn c no hdc ⟨od,⟨p1,p2,?_,?_⟩,by rw [hl,hm]⟩ (jc hv) ⟨v,H1,I1.tok _,hv,q⟩
  ·unfold notCls; rw [p3]
  ·rw [hd]; exact hod⟩
end
end L2
namespace HT
open PySem PyProof.Rows PySem.W L2
noncomputable def t8 (K:Frag) (C:Addr) (bmB:List Value) (nid:String) (f:Addr):Bool:=match K.lookup C with
 | some ⟨.type "type",_,.cls cd,sl⟩=>(match cd.mro,sl.toList with
  | .ref C'::bm,[_,_,_,_,some (.builtin n),_]=>C' == C && n == nid && !cd.hasDel && tailIn K bmB bm && nsOkIn K cd.ns && nsIn K cd.ns "__init__" == some (some (.ref f))
  | _,_=>false)
 | _=>false
theorem wl {K:Frag} {bmB:List Value} {nid:String} (q:t8 K C bmB nid f=true) (hf:isFn K (.ref f)=true):OwnInit K C bmB nid f:=by
 refine ⟨?_,beq_iff_eq.mp hf⟩
 unfold t8 at q
 split at q
 ·rename_i dd cd sl ho
  split at q
  ·rename_i C' bm k0 k1 k2 k3 n k5 hm hs
   rw [AZ,AZ,AZ,AZ,AZ] at q
   obtain ⟨⟨⟨⟨⟨z1,z2⟩,z3⟩,z4⟩,z5⟩,z6⟩:=q
   have z1:C'=C:=beq_iff_eq.mp z1
   have z2:n=nid:=beq_iff_eq.mp z2
   have z3:cd.hasDel=false:=by simpa using z3
   subst z1 z2
   exact ⟨_,_,_,_,_,_,_,_,_,ho,hm,hs,z3,z4,z5,beq_iff_eq.mp z6⟩
  ·cases q
 ·cases q
noncomputable def t9 (K:Frag) (S:Addr):Bool:=specialIn K (.ref S) "__getattribute__" == some (some (.builtin "type.__getattribute__")) && readsIn K S (.type "type") && (match findCls K (.ref S) (.type "type") "__init__" with
 | some (.val (.builtin n))=>n == "ValueError.__init__"
 | _=>false)
theorem wn {K:Frag} {S:Addr} (q:t9 K S=true):SupI K S:=by
 unfold t9 at q
 rw [AZ,AZ] at q
 obtain ⟨⟨z1,z2⟩,z3⟩:=q
 refine ⟨beq_iff_eq.mp z1,z2,?_⟩
 split at z3
 ·rename_i n e
  rw [e,show n = "ValueError.__init__" from beq_iff_eq.mp z3]
 ·cases z3
end HT
namespace L2
open PySem PySem.Spec PyProof.Rows PySem.W
section
variable {D:Ends} {Ex:XW} {σ:St} {H:Hp} {Q:VK} {K:Frag} {C:Addr} {t:TA} {ta tv:TE} {f:Str} {sp:Sp} {E:XK}
theorem zl (h:t σ H λ vs H1=>∃ e C f d y,vs=[.ref e,y]/\H1 e=some (hJ e C d)/\HT.OwnInit K C veB "ValueError.__new__" f/\Q .non H1):zk K t σ H Q:=h
theorem wW (h:tv σ H λ y H1=>ta σ H1 λ x H2=>∃ e C,x=.ref e/\H2 e=some (hJ e C none)/\HT.XSt K C f/\∀ dx,H2 dx=none->dx≠e->D.nx σ (upd (upd H2 dx (.xd [(f,y)])) e (hJ e C (some dx)))):wg K ta tv f D σ H:=h
theorem uI (h:t σ H λ vs H1=>vs.length<=sizeLine/\∀ e,H1 e=none->sp (.ref e::(vs++[])) (upd H1 e (hJ e C none)) (λ v H2=>v=.non/\∃ d,H2 e=some (hJ e C d)/\Ex C d σ (del H2 e)) λ _ _ _=>False):og C sp t D Ex σ H:=h
theorem yA (h:ta σ H λ x H1=>∃ a C dx fs v,x=.ref a/\H1 a=some (gW a C (some dx))/\H1 dx=some (.xd fs)/\XCl K C/\findIn K (.ref C) f=some none/\hasDictIn K C=true/\fs.lookup f=some v/\Q v H1):wk K ta f σ H Q:=h
theorem zm {t:TX} (h:t D (λ C d _ H'=>E (.ref C) d H') σ H):xTo E t D σ H:=h
end
end L2
namespace L2
open PySem PySem.Spec PyProof.Rows
noncomputable def wo:List V->Hp->VK->Prop:=λ xs H Q=>∃ (a:Addr) (n:Nat) (d:PyData),xs=[.ref a]/\DatM n H (.ref a) d/\n<=8/\d.weight<=2 ^ 19/\Q (.str d.shown) H
section
variable {X:Cx}
theorem iN (hg:X.A.guards=some []) (hu:X.A.units+64<cLine):QC X (.type "str") wo:=by
 refine ⟨λ pins s σ H xs us Q I r h=>?_⟩
 obtain ⟨a,n,d,rfl,hd,hn,hw,q⟩:=h
 obtain ⟨u,rfl,ru⟩:=im r
 obtain ⟨as,h1⟩:=hd.reads I ru
 cases ru
 obtain ⟨f1,f2,f3,f4⟩:=hd.facts
 refine str_of_reads h1 f1 (λ z=>by rw [f2] at z; cases z) hg (by lia) (λ b o e=>e) (λ h' u tk hk=>?_) (by
  have h:=PyData.shown_le 25 (by decide) d f4
  have e:(2:Nat) ^ 19=524288:=by decide
  have h2:(25+2)*d.weight<=27*524288:=Nat.mul_le_mul (by lia) (by lia)
  rw [sizeLine_eq]
  lia)
 exact ⟨.str d.shown,H,I.kept hk,⟨u,rfl⟩,q⟩
end
theorem eR {H:Hp} {Q:VK} {d:PyData} (h1:DatM n H (.ref a) d) (hn:n<=8) (h2:d.weight<=2 ^ 19) (h:Q (.str d.shown) H):wo [.ref a] H Q:=⟨a,n,d,rfl,h1,hn,h2,h⟩
theorem FnOk.both {w:World} {K:Ae} {mg:Str->Option Value} {base:Heap} {fd:FuncData} {ps:List Str} {sp sp':Sp} (F:FnOk P w K mg base CX0 k f fd ps sp) (G:FnOk P w K mg base (CXE P w) k f fd ps sp') :
  FnOk P w K mg base (CXE P w) k f fd ps (λ vs H Q E=>sp vs H Q E\/sp' vs H Q E):=by
 refine ⟨λ vs H Q E h=>h.elim (F.len vs H Q E) (G.len vs H Q E),λ A outer s H args us vs Q E hr he hb hv h=>?_⟩
 rcases h with h | h
 ·refine codeAny_mono (F.run A outer s H args us vs Q E hr he hb hv h) λ r s' q=>?_
  cases r with
  | error e=>exact A7 q
  | ok fl=>cases fl<;>exact q
 ·exact G.run A outer s H args us vs Q E hr he hb hv h
end L2
namespace L2
open PySem PySem.Spec PyProof.Rows PySem.Builtin PySem.Builtin.Str
section
variable {X:Cx}
variable {o e a b:Expr} {rest:List Expr} {to ta tb:TE} {t:TA} {apos cpos pos:Pos}
end
section
variable {P:Program} {w:World} {K:Ae} {mg:Str->Option Value} {base:Heap}
end
end L2
set_option maxHeartbeats 0
namespace Fs
open PySem PySem.Spec PyProof.Rows L2
local macro_rules
 | `(tactic| walk_at "s")=>`(tactic| exact ⟨rfl,rfl,rfl,by decide +kernel,rfl,by decide +kernel,by decide +kernel⟩)
local macro_rules
 | `(tactic| nofun)=>do
  let q ←("yH yt zd ze wT wU zf yr yI xM yJ xN xO zx yK xP zX yL zA yM zY zB zC zD wK yR xY yS wM zZ yN yT xZ wN x6 zF xQ yO xR yP yQ zy iw zI zJ x8 ye y7 yk yj wV yY zN yh vL wO wP zg yu yw yx zL dM zl wW uI yA zm".splitOn " ").foldrM (fun n (a:Lean.TSyntax `tactic)=>`(tactic| first | (with_reducible refine $(Lean.mkIdent (Hy n)) ?_) | $a:tactic)) (←`(tactic| fail))
  `(tactic| (repeat (first | $q:tactic | (with_reducible refine tS ?_; dsimp only [Bw]) | (with_reducible refine pT ?_; dsimp only [Bw]) | ((with_reducible show w5 _ _ _ _); refine ⟨_,rfl,?_⟩) | (with_reducible refine zE ?c ?_; (case c=>first | (show (0:Int)<_; omega) | exact xS (by omega) (by omega) | exact zG (by omega) (by omega) | exact xT (by omega) (by omega) (by omega) | exact xU (by omega) (by omega) | exact xV (by omega) (by omega) | exact zH (by decide) (by decide) (by decide))) | (with_reducible refine vA (by first | assumption | exact aa) ?_; refine ⟨_,rfl,?_⟩) | (with_reducible refine sP (by first | assumption | exact aa) ?_; refine ⟨_,rfl,?_⟩) | (with_reducible refine sQ (by first | assumption | exact aa) ?_; refine ⟨_,rfl,?_⟩; dsimp only [Int.reduceToNat,Bw]) | (with_reducible refine sW ?_; dsimp only [Bw]) | ((with_reducible show zr _ _ _ _ _ _); refine ⟨_,rfl,?_⟩))))
def top (i:Nat):Stmt:=A5.main.body.getD i (.Pass ⟨0,0,0,0⟩)
noncomputable abbrev bu:Stmt:=gc (top 4) 0
noncomputable abbrev oj:Stmt:=top 7
noncomputable abbrev c5:Stmt:=top 9
noncomputable abbrev du:Stmt:=top 10
noncomputable abbrev cu:Stmt:=gc (top 11) 0
noncomputable abbrev bT:Stmt:=gc (top 11) 1
noncomputable abbrev dW:Stmt:=gc (top 11) 2
noncomputable abbrev fE:Stmt:=gc (top 11) 3
noncomputable abbrev dv:Stmt:=top 12
noncomputable abbrev ol:Stmt:=top 14
noncomputable abbrev om:Stmt:=top 15
noncomputable abbrev on:Stmt:=top 16
noncomputable abbrev oo:Stmt:=top 17
noncomputable abbrev cM:Stmt:=top 18
noncomputable abbrev dX:Stmt:=top 19
noncomputable abbrev j7:Stmt:=top 20
noncomputable abbrev dw:Stmt:=top 21
noncomputable abbrev iO:Stmt:=top 22
noncomputable abbrev j8:Stmt:=top 23
noncomputable abbrev l8:Stmt:=top 24
set_option genSizeOfSpec false in
set_option genInjectivity false in
structure Ad where
 bz:Addr
 bx:FuncData
 oX:Addr
 oR:FuncData
 ci:Addr
 cg:FuncData
 dC:Addr
 dA:FuncData
 ba:Addr
 aZ:FuncData
 bV:Addr
 bU:FuncData
 eA:Addr
 ef:FuncData
 fH:Addr
 fG:FuncData
 bS:Addr
 bR:FuncData
 oY:Addr
 oS:FuncData
 oU:Addr
 oO:FuncData
 oV:Addr
 oP:FuncData
 oW:Addr
 oQ:FuncData
 cO:Addr
 cN:FuncData
 eB:Addr
 eg:FuncData
 kg:Addr
 ke:FuncData
 dB:Addr
 dz:FuncData
 i3:Addr
 iZ:FuncData
 kh:Addr
 kf:FuncData
 uC:Addr
 uB:FuncData
 aK:Addr
 bq:Addr
 af:Addr
 ae:Addr
 bG:Addr
 aL:Addr
structure Tx (K:Ae) (mg:Str->Option Value) (t:Ad):Prop where
 bv:HT.OwnInit K t.ae veB "ValueError.__new__" t.bz
 eF:Fun K "__init__" "NotRising.__init__" bu t.bz t.bx
 cz:Binds K t.bx ["self","place"] []
 lp:mg "runs" = some (.ref t.oX)
 jJ:Fun K "runs" "runs" oj t.oX t.oR
 lm:Binds K t.oR ["rows"] []
 c8:mg "check_rising" = some (.ref t.ci)
 bA:Fun K "check_rising" "check_rising" c5 t.ci t.cg
 c7:Binds K t.cg ["lists"] []
 i9:mg "place_among" = some (.ref t.dC)
 fh:Fun K "place_among" "place_among" du t.dC t.dA
 iY:Binds K t.dA ["heads","head"] []
 cv:Mk K t.af t.ba
 dH:Fun K "__init__" "Merge.__init__" cu t.ba t.aZ
 cw:Binds K t.aZ ["self","lists"] []
 bo:Meth K t.af "show_head" t.bV
 fx:Fun K "show_head" "Merge.show_head" bT t.bV t.bU
 bp:Binds K t.bU ["self","number"] []
 cU:Meth K t.af "next" t.eA
 jI:Fun K "next" "Merge.next" dW t.eA t.ef
 cV:Binds K t.ef ["self"] []
 rB:Meth K t.af "left" t.fH
 rp:Fun K "left" "Merge.left" fE t.fH t.fG
 rE:Binds K t.fG ["self"] []
 dD:mg "many_merged" = some (.ref t.bS)
 bQ:Fun K "many_merged" "many_merged" dv t.bS t.bR
 dy:Binds K t.bR ["lists"] []
 wD:mg "_law_tape" = some (.ref t.oY)
 rA:Fun K "_law_tape" "_law_tape" ol t.oY t.oS
 wA:Binds K t.oS ["_law_script","_law_k"] []
 bL:mg "_law_draw" = some (.ref t.oU)
 bB:Fun K "_law_draw" "_law_draw" om t.oU t.oO
 bK:Binds K t.oO ["_law_tape_here","_law_many_here"] []
 wB:mg "_law_many" = some (.ref t.oV)
 rq:Fun K "_law_many" "_law_many" on t.oV t.oP
 wy:Binds K t.oP ["_law_tape_here","_law_k"] []
 wC:mg "_law_rows" = some (.ref t.oW)
 rz:Fun K "_law_rows" "_law_rows" oo t.oW t.oQ
 wz:Binds K t.oQ ["_law_tape_here","_law_many_here","_law_base"] []
 gO:mg "_law_lists_of_rows" = some (.ref t.cO)
 ee:Fun K "_law_lists_of_rows" "_law_lists_of_rows" cM t.cO t.cN
 gN:Binds K t.cN ["_law_tape_here","_law_many_here"] []
 jL:mg "_law_merged_due" = some (.ref t.eB)
 fF:Fun K "_law_merged_due" "_law_merged_due" dX t.eB t.eg
 jK:Binds K t.eg ["_law_lists"] []
 oZ:mg "_law_asked" = some (.ref t.kg)
 kb:Fun K "_law_asked" "_law_asked" j7 t.kg t.ke
 oM:Binds K t.ke ["_law_lists","_law_by_class"] []
 i8:mg "_law_first_fault" = some (.ref t.dB)
 fg:Fun K "_law_first_fault" "_law_first_fault" dw t.dB t.dz
 iX:Binds K t.dz ["_law_lists"] []
 qF:mg "_law_turned" = some (.ref t.i3)
 ll:Fun K "_law_turned" "_law_turned" iO t.i3 t.iZ
 qE:Binds K t.iZ ["_law_tape_here","_law_lists"] []
 o0:mg "_law_right" = some (.ref t.kh)
 kc:Fun K "_law_right" "_law_right" j8 t.kh t.kf
 oN:Binds K t.kf ["_law_lists"] []
 zV:mg "law" = some (.ref t.uC)
 yC:Fun K "law" "law" l8 t.uC t.uB
 zU:Binds K t.uB ["_law_script"] []
 cX:mg "ValueError" = none
 o8:mg "abs" = none
 lq:mg "bool" = none
 aM:mg "enumerate" = none
 me:mg "int" = none
 bj:mg "isinstance" = none
 cP:mg "len" = none
 lu:mg "list" = none
 qG:mg "min" = none
 cx:mg "range" = none
 fi:mg "sorted" = none
 km:mg "str" = none
 bW:mg "tuple" = none
 uD:mg "zip" = none
 ki:mg "BadOrder" = some (.ref t.aK)
 o7:mg "BadRow" = some (.ref t.bq)
 ja:mg "Merge" = some (.ref t.af)
 eC:mg "NotRising" = some (.ref t.ae)
 fI:mg "SortError" = some (.ref t.bG)
 kl:mg "TooGreat" = some (.ref t.aL)
 g1:AI K (.ref t.ae) "__getattribute__" = some (some (.builtin "BaseException.__getattribute__"))
 g2:AI K (.ref t.ae) "__class__" = some (some (.builtin "object.__class__"))
 g3:AI K (.ref t.ae) "__getattr__" = some none
 g4:De K t.ae (.type "BaseException")=some true
 g5:De K t.ae (.type "object")=some true
 g6:(DQ K t.ae).isSome=true
 g7:EF K (.ref t.ae) (.ref t.bG)=some true
 g8:Gj K (.ref t.ae) [.ref t.aK,.ref t.bq,.ref t.aL]=some false
 g9:BH K (.ref t.ae) (.ref t.ae)=some true
 ga:BH K (.ref t.ae) (.type "ValueError")=some true
 gb:Cb K t.ae=true
 aF:Cls K t.af
 br:NoAttr K t.af "lists"
 aX:NoAttr K t.af "marks"
 aH:NoAttr K t.af "heads"
 ck:Bv K (.ref t.ae)=true
 aP:HT.XSt K t.ae "place"
 cW:HT.SupI K t.bG
theorem iP:bootBuiltins "ValueError" = some (.type "ValueError"):=by decide +kernel
theorem rg:bootBuiltins "abs" = some (.builtin "abs"):=by decide +kernel
theorem ua:bootBuiltins "bool" = some (.type "bool"):=by decide +kernel
theorem oq:bootBuiltins "int" = some (.type "int"):=by decide +kernel
theorem cC:bootBuiltins "isinstance" = some (.builtin "isinstance"):=by decide +kernel
theorem bJ:bootBuiltins "len" = some (.builtin "len"):=by decide +kernel
theorem ub:bootBuiltins "list" = some (.type "list"):=by decide +kernel
theorem wq:bootBuiltins "min" = some (.builtin "min"):=by decide +kernel
theorem jA:bootBuiltins "sorted" = some (.builtin "sorted"):=by decide +kernel
theorem kX:bootBuiltins "str" = some (.type "str"):=by decide +kernel
theorem cf:bootBuiltins "tuple" = some (.type "tuple"):=by decide +kernel
theorem dY:FnScope ["self","place"] ["self","place"] (ap bu):=by walk_at "s"
theorem sc_runs:FnScope ["rows","lengths","place","row"] ["rows"] (ap oj):=by walk_at "s"
theorem sc_check_rising:FnScope ["lists","place","rows"] ["lists"] (ap c5):=by walk_at "s"
theorem sc_place_among:FnScope ["heads","head","low","high","middle"] ["heads","head"] (ap du):=by walk_at "s"
theorem sc_Merge___init__:FnScope ["self","lists","number"] ["self","lists"] (ap cu):=by walk_at "s"
theorem sc_Merge_show_head:FnScope ["self","number","rows","mark","head"] ["self","number"] (ap bT):=by walk_at "s"
theorem sc_Merge_next:FnScope ["self","row","number"] ["self"] (ap dW):=by walk_at "s"
theorem sc_many_merged:FnScope ["lists","merge","told","pair"] ["lists"] (ap dv):=by walk_at "s"
theorem sc_tape:FnScope ["_law_script","_law_k","_law_cell","_law_digits"] ["_law_script","_law_k"] (ap ol):=by walk_at "s"
theorem sc_draw:FnScope ["_law_tape_here","_law_many_here","_law_found","_law_once"] ["_law_tape_here","_law_many_here"] (ap om):=by walk_at "s"
theorem uc:FnScope ["_law_tape_here","_law_k"] ["_law_tape_here","_law_k"] (ap on):=by walk_at "s"
theorem sc_rows:FnScope ["_law_tape_here","_law_many_here","_law_base","_law_columns","_law_top","_law_found","_law_k","_law_row","_law_way","_law_other","_law_at"] ["_law_tape_here","_law_many_here","_law_base"] (ap oo):=by walk_at "s"
theorem sc_lists_of_rows:FnScope ["_law_tape_here","_law_many_here","_law_rows_here","_law_lists","_law_row"] ["_law_tape_here","_law_many_here"] (ap cM):=by walk_at "s"
theorem sc_merged_due:FnScope ["_law_lists","_law_found","_law_number","_law_some"] ["_law_lists"] (ap dX):=by walk_at "s"
theorem sc_asked:FnScope ["_law_lists","_law_by_class","_law_found","_law_caught","e"] ["_law_lists","_law_by_class"] (ap j7):=by walk_at "s"
theorem sc_first_fault:FnScope ["_law_lists","_law_number","_law_some","_law_k"] ["_law_lists"] (ap dw):=by walk_at "s"
theorem sc_turned:FnScope ["_law_tape_here","_law_lists","_law_found","_law_turn","_law_some","_law_at"] ["_law_tape_here","_law_lists"] (ap iO):=by walk_at "s"
theorem sc_right:FnScope ["_law_lists","_law_fault","_law_due","_law_handed","_law_kept"] ["_law_lists"] (ap j8):=by walk_at "s"
theorem sc_law:FnScope ["_law_script","_law_k","_law_tape_here","_law_lists"] ["_law_script"] (ap l8):=by walk_at "s"
section
variable {P:Program} {w:World} {K:Ae} {mg:Str->Option Value} {base:Heap} {t:Ad}
theorem aV (T:Tx K mg t):FnOk P w K mg base CX0 1 t.oU t.oO ["_law_tape_here","_law_many_here"] sZ:=by
 refine T.bB.okQ sc_draw (λ vs H Q E h=>?_) (λ cdv A outer s H vs Q E hr h=>?_)
 ·obtain ⟨p,m,rfl,_⟩:=h
  rfl
 ·obtain ⟨p,m,rfl,⟨a,b,hp,ha,hb⟩,hm,hm2,k⟩:=h
  have fin:∀ (x:Int) H',St2 p H H'->Q (.int (x % m)) H':=λ x H' S=>by
   have:=k (x % m).toNat H' (by rw [EW (CT _ (by lia))]; exact Int.emod_lt_of_pos _ hm) S
   rw [EW (CT _ (by lia))] at this
   exact this
  refine ⟨_,(ag (cq (az pY (cn (cB (K:=K)) (qv 0) ai) ai (aE _)) (ag (aA (i:=2) sc_draw.nd rfl (Av rfl) (aS iB (cn (cB (K:=K)) (qv 0) ai) (qv 1)))
   (ag (qT (aS m6 (cn (cB (K:=K)) (qv 0) ai) (qv 1)) (qv 0) ai)
   (am (aU (qv 2))))) bi)
   (ag (qT (aS iB (aS eJ (aS lM (cn (cB (K:=K)) (qv 0) ai) ai) ai) ai) (qv 0) ai)
   (ag (aA (i:=3) sc_draw.nd rfl (Av rfl) (aS iB (aS lM (cn (cB (K:=K)) (qv 0) ai) (aS eJ (aS iB (cn (cB (K:=K)) (qv 0) ai) ai) ai)) ai))
   (am (aU (aS iB (aS iB (aS lM (qv 3) (aS eJ (aS iB (qv 3) ai) ai)) ai) (qv 1))))))),?_⟩
  rw [show L2.bc ["_law_tape_here","_law_many_here","_law_found","_law_once"] [HU p,HR m]=[some (HU p),some (HR m),none,none] from rfl]
  nofun
  refine bC (λ h0=>?_) (λ h0=>?_)
  ·nofun
   exact fin _ _ (Tp2.mk (Int.ediv_nonneg ha (by lia)) hb)
  ·nofun
   exact fin _ _ (Tp2.mk ha (CT _ (by lia)))
theorem ud (T:Tx K mg t):FnOk P w K mg base CX0 1 t.oY t.oS ["_law_script","_law_k"] (sY K):=by
 refine T.rA.okQ sc_tape (λ vs H Q E h=>?_) (λ cdv A outer s H vs Q E hr h=>?_)
 ·obtain ⟨a,ns,k,rfl,_⟩:=h
  rfl
 ·obtain ⟨a,ns,k,rfl,hS,hk,q⟩:=h
  refine ⟨_,(ag (aA (i:=2) sc_tape.nd rfl (Av rfl) ai)
   (ag (cq (az yc (qv 1) (ax (bI (K:=K)) (by rfl) T.cP bJ (ao (qv 0) ac)) (aE _)) (am (aA (i:=2) sc_tape.nd rfl (Av rfl) (cn (cB (K:=K)) (qv 0) (qv 1)))) bi)
   (ag (aA (i:=3) sc_tape.nd rfl (Av rfl) (aS lM (ax qU (by rfl) T.o8 rg (ao (qv 2) ac)) (aD m7 (by rfl) T.me oq (ao (jT zK (ax qU (by rfl) T.o8 rg (ao (qv 2) ac)) (aS ya ai ai) (aE _)) ac))))
   (am (aU (aT (ao (qv 3) (ao (aS iB (aS lM (aS iB (aS eJ (aS eJ (qv 2) (aS lM ai (qv 1))) ai) ai) ai) ai) ac)))))))),?_⟩
  rw [show L2.bc ["_law_script","_law_k","_law_cell","_law_digits"] [HU a,HR k]=[some (HU a),some (HR k),none,none] from rfl]
  nofun
  refine bt hS ?_
  nofun
  refine bC (λ h0=>?_) (λ h0=>?_)
  ·nofun
   have hlt:k.toNat<ns.length:=by rw [Af] at h0; lia
   have hget:atI (ns.map HR) k=some (HR ns[k.toNat]):=by
    have e:k=(k.toNat:Int):=by lia
    have:=bE (xs:=ns.map HR) (j:=k.toNat) (v:=HR ns[k.toNat]) (by simp [hlt])
    rw [<-e] at this; exact this
   refine dI hS hget ?_
   generalize ns[k.toNat]=cell
   nofun
   exact ⟨aR (by simp),λ p hp=>q p _ hp ((HV H).new hp) ⟨_,_,aa,Gk (by split<;>lia) (by (repeat' split)<;>lia),CT _ (by lia)⟩⟩
  ·nofun
   exact ⟨aR (by simp),λ p hp=>q p _ hp ((HV H).new hp) ⟨_,_,aa,Gk (by split<;>lia) (by (repeat' split)<;>lia),CT _ (by lia)⟩⟩
noncomputable def RowsT (H:Hp) (ps:List Addr) (rss:List (List Nat)):Prop:=ps.length=rss.length/\∀ (i:Nat) p r,ps[i]? = some p->rss[i]? = some r->H p=some (.tup (NV r))
theorem RowsT.same {H:Hp} (h:RowsT H ps rss) (e:Same H H1):RowsT H1 ps rss:=⟨h.1,λ i p z a c=>e _ _ (h.2 i p z a c)⟩
theorem RowsT.snoc {H:Hp} {p:Addr} (h:RowsT H ps rss) (e:H p=some (.tup (NV r))):RowsT H (ps++[p]) (rss++[r]):=by
 refine ⟨by simp [h.1],λ i q y a c=>?_⟩
 rcases bY a with ⟨l,a⟩ | ⟨l,a⟩
 ·rcases bY c with ⟨_,c⟩ | ⟨l',c⟩
  ·exact h.2 i q y a c
  ·have:=h.1; lia
 ·rcases bY c with ⟨l',c⟩ | ⟨_,c⟩
  ·have:=h.1; lia
  ·rw [a,c]; exact e
theorem RowsT.st2 {H:Hp} (h:RowsT H ps rss) (t:Tp2 H q) (e:St2 q H H1):RowsT H1 ps rss:=⟨h.1,λ i p z a b=>by
 have hp:=h.2 i p z a b
 obtain ⟨x,y,ht,_⟩:=t
 exact e.keep _ _ hp (cm hp ht (by intro c; cases c))⟩
theorem ue {H:Hp} {p x:Addr} {zs:List V} (t:Tp2 H p) (hx:H x=some (.tup zs)):x≠p:=by
 obtain ⟨a1,a2,h9,_⟩:=t
 exact cm hx h9 (by intro c; cases c)
theorem RowsT.own {H:Hp} (h:RowsT H ps rss) (hl:H l=some (.lst xs)):RowsT (upd H l (.lst ys)) ps rss:=⟨h.1,λ i p z a b=>by
 have:=h.2 i p z a b
 rw [aj (cm this hl (by intro c; cases c))]; exact this⟩
noncomputable def Good (rss:List (List Nat)) (w b:Nat):Prop:=∀ r∈rss,r.length=w/\∀ x∈r,x<b
theorem Good.snoc {w b:Nat} (h:Good rss w b) (h1:r.length=w) (h2:∀ x∈r,x<b):Good (rss++[r]) w b:=λ q hq=>by
 rcases AO.mp hq with g | g
 ·exact h q g
 ·rw [AJ.mp g]; exact ⟨h1,h2⟩
noncomputable def qw:Sp:=λ vs H Q _=>∃ (p:Addr) (k:Int),vs=[.ref p,.int k]/\Tp2 H p/\∀ (r:Nat) H',r<=200->St2 p H H'->Q (.int r) H'
theorem uf (T:Tx K mg t):FnOk P w K mg base CX0 2 t.oV t.oP ["_law_tape_here","_law_k"] qw:=by
 refine T.rq.okQ uc (λ vs H Q E h=>?_) (λ cdv A outer s H vs Q E hr h=>?_)
 ·obtain ⟨p,k,rfl,_⟩:=h
  rfl
 ·obtain ⟨p,kk,rfl,hT,k⟩:=h
  refine ⟨_,(ag (cq (QW.qt (kz (az uF (qv 1) ai (aE _)) (iz (az uF (av (aV T) (hr.mono (by decide)) rfl T.bL T.bB.kp T.bK aG (ao (qv 0) (ao ai ac))) ai (aE _))))) (am (aU ai)) bi)
   (am (aU (cn (cB (K:=K)) (aT (ao (av (aV T) (hr.mono (by decide)) rfl T.bL T.bB.kp T.bK aG (ao (qv 0) (ao ai ac))) (ao (aS eJ ai (av (aV T) (hr.mono (by decide)) rfl T.bL T.bB.kp T.bK aG (ao (qv 0) (ao ai ac)))) ac))) (aD m7 (by rfl) T.me oq (ao (jT uF (av (aV T) (hr.mono (by decide)) rfl T.bL T.bB.kp T.bK aG (ao (qv 0) (ao ai ac))) ai (aE _)) ac)))))),?_⟩
  rw [show L2.bc ["_law_tape_here","_law_k"] [HU p,HR kk]=[some (HU p),some (HR kk)] from rfl]
  nofun
  apply yi (α:=Nat) (S:=λ _ H3=>St2 p H H3)
  case hA=>
   intro key
   refine bC (λ h1=>?_) (λ h1=>?_)
   ·nofun
    refine ⟨p,16,rfl,hT,by decide,by decide,λ r2 H3 a2 S3=>?_⟩
    nofun
    refine bC (λ h2=>?_) (λ h2=>?_)
    ·nofun
     exact k 200 H3 (by lia) S3
    ·nofun
     exact key r2 H3 S3
   ·nofun
    exact key 0 H (St2.refl hT)
  case hB=>
   rintro _ H3 S3
   nofun
   refine ⟨p,7,rfl,S3.tape,by decide,by decide,λ r1 H4 a1 S4=>?_⟩
   nofun
   refine ⟨p,6,rfl,S4.tape,by decide,by decide,λ r2 H5 a2 S5=>?_⟩
   nofun
   refine ⟨aR (by simp),λ q hq=>?_⟩
   have nq:=S5.tape.ne hq
   have S6:=((S3.trans S4).trans S5).new (o:=.lst [HR (r1:Int),HR (7+(r2:Int))]) hq
   have tq:(upd H5 q (.lst [HR (r1:Int),HR (7+(r2:Int))])) q=some (.lst [HR (r1:Int),HR (7+(r2:Int))]):=aa
   generalize upd H5 q (.lst [HR (r1:Int),HR (7+(r2:Int))])=H6 at S6 tq
   nofun
   refine ⟨p,8,rfl,S6.tape,by decide,by decide,λ r3 H7 a3 S7=>?_⟩
   nofun
   obtain ⟨v,e,hv⟩:=gi (xs:=[HR (r1:Int),HR (7+(r2:Int))]) (r:=if decide (HR (r3:Int)=HR 0)=true then 1 else 0) (by split<;>lia) (by simp only [Az,A9]; split<;>lia)
   refine dI (HN (S7.keep q _ tq nq)) e ?_
   have hv':∃ m:Nat,v=HR m/\m<=200:=by
    simp only [Al,Bd,or_false] at hv
    rcases hv with rfl | rfl
    ·exact ⟨r1,rfl,by lia⟩
    ·exact ⟨7+r2,by congr 1,by lia⟩
   obtain ⟨m,rfl,hm⟩:=hv'
   exact k m H7 hm (S6.trans S7)
noncomputable def RowsS (H:Hp) (ps:List Addr) (rss:List (List Nat)):Prop:=ps.length=rss.length/\∀ (i:Nat) p r,ps[i]? = some p->rss[i]? = some r->H p=some (.lst (NV r))\/H p=some (.tup (NV r))
theorem RowsS.same {H:Hp} (h:RowsS H ps rss) (e:Same H H1):RowsS H1 ps rss:=⟨h.1,λ i p z a c=>(h.2 i p z a c).elim (λ h=>.inl (e _ _ h)) (λ h=>.inr (e _ _ h))⟩
theorem RowsT.toS {H:Hp} (h:RowsT H ps rss):RowsS H ps rss:=⟨h.1,λ i p z a c=>.inr (h.2 i p z a c)⟩
theorem cS (r:List Nat):NV r=(bf r).map HR:=ng r
theorem eE (h:rss[i]? = some r):rss.getD i []=r:=by rw [Ag,h]; rfl
noncomputable def ug:Sp:=λ vs H Q _=>∃ (a:Addr) (ps:List Addr) (rss:List (List Nat)),vs=[.ref a]/\(H a=some (.lst (ps.map HU))\/H a=some (.tup (ps.map HU)))/\RowsS H ps rss/\rss.length<=200/\∀ (l:Addr) H',H l=none->Same H H'->H' l=some (.lst (NV (aO rss rss.length)))->Q (.ref l) H'
theorem dg {K:Ae} {H:Hp} {Q:VK} {p:Addr} (h:H p=some (.lst xs)\/H p=some (.tup xs)) (k:∀ (q:Addr) H',Same H H'->H' q=some (.tup xs)->Q (.ref q) H'):fN K [.ref p] H Q:=by
 rcases h with h | h
 ·exact ⟨p,xs,rfl,.inl ⟨HN h,λ l hl=>k l _ ((HV H).new hl) aa⟩⟩
 ·exact ⟨p,xs,rfl,.inr ⟨HQ h,k p H (HV H) h⟩⟩
theorem iQ (T:Tx K mg t):FnOk P w K mg base CX0 1 t.oX t.oR ["rows"] ug:=by
 refine T.jJ.okQ sc_runs (λ vs H Q E h=>?_) (λ cdv A outer s H vs Q E hr h=>?_)
 ·obtain ⟨a,ps,rss,rfl,_⟩:=h
  rfl
 ·obtain ⟨a,ps,rss,rfl,hta,hR,hn,k⟩:=h
  have hpl:ps.length=rss.length:=hR.1
  rcases hta with ta | ta
  ·refine ⟨_,(ag (aA (i:=1) sc_runs.nd rfl (Av rfl) (aT ac))
   (ag (cy A2 rfl (dO (K:=K) rfl T.aM (ao (qv 0) ac)) (dN (K:=K) (n:=2) rfl (aC (au (i:=2) sc_runs.nd rfl (Av rfl)) (aC (au (i:=3) sc_runs.nd rfl (Av rfl)) cG))) (am (cq (QW.qt (kz (az pY (qv 2) ai (aE _)) (iz (az (vS (K:=K) hr.units0) (aD (bX (K:=K)) (by rfl) T.bW cf (ao (cn (cB (K:=K)) (qv 0) (aS m5 (qv 2) ai)) ac)) (aD (bX (K:=K)) (by rfl) T.bW cf (ao (qv 3) ac)) (aE _))))) (am (kF (K:=K) (qv 1) (vG vI ai) ai)) (am (bF (de (K:=K) (qv 1) (ao ai ac)))))))
   (am (aU (qv 1))))),?_⟩
   rw [show L2.bc ["rows","lengths","place","row"] [HU a]=[some (HU a),none,none,none] from rfl]
   nofun
   refine ⟨aR (by simp),λ l hl=>?_⟩
   have s1:=(HV H).new (o:=.lst []) hl
   have tl:(upd H l (.lst [])) l=some (.lst (NV (aO rss 0))):=aa
   generalize upd H l (.lst [])=H1 at s1 tl
   nofun
   refine ⟨a,rfl,⟨_,HN (s1 _ _ ta)⟩,dP (n:=rss.length) (λ i σ H'=>Same H H'/\H' l=some (.lst (NV (aO rss i)))/\∃ v w,σ=[some (HU a),some (HU l),v,w]) ⟨s1,tl,none,none,rfl⟩ ?_ ?_ ?_ ?_⟩
   ·rintro i σ H2 hi ⟨s2,_⟩
    have hip:i<ps.length:=by lia
    exact ⟨_,_,HN (s2 _ _ ta),by rw [Ak,Ac hip]; rfl⟩
   ·rintro σ H2 ⟨s2,_⟩
    exact ⟨_,HN (s2 _ _ ta),by rw [Af]; exact hpl⟩
   ·rintro i x σ H2 H3 hi ⟨s2,t2,v,w,rfl⟩ ⟨q,x1,rfl,hq,rfl,hx1⟩
    have hx2:=hx1 _ (HN (s2 _ _ ta))
    obtain ⟨p,rfl,hp,hpm,hip⟩:=bO hx2
    refine bZ aa ?_
    dsimp only [Bw]
    have s3:=s2.new (o:=.tup [HR (i:Nat),HU p]) hq
    have t3:(upd H2 q (.tup [HR (i:Nat),HU p])) l=some (.lst (NV (aO rss i))):=by rw [aj (ak t2 hq)]; exact t2
    generalize upd H2 q (.tup [HR (i:Nat),HU p])=H3 at s3 t3
    have hlr:=jr rss i
    nofun
    refine bC (λ g=>?_) (λ g=>?_)
    ·have hi0:0<i:=by lia
     have e1:(i:Int) - 1=((i - 1:Nat):Int):=by lia
     have hip1:i - 1<ps.length:=by lia
     have ei:rss[i]? = some rss[i]:=by simp [hi]
     have ei1:rss[i - 1]? = some (rss[i - 1]'(by lia)):=Ac _
     have tp0:=hR.2 i p rss[i] hp ei
     have tp:=(hR.same s3).2 i p rss[i] hp ei
     have tp1:=(hR.same s3).2 (i - 1) ps[i - 1] _ (by simp [hip1]) ei1
     nofun
     rw [e1]
     refine dI (HN (s3 _ _ ta)) (v:=HU ps[i - 1]) (bE (by rw [Ak,Ac hip1]; rfl)) ?_
     nofun
     refine dg tp1 λ q1 H4 s4 tq1=>?_
     nofun
     refine dg (tp.elim (λ h=>.inl (s4 _ _ h)) λ h=>.inr (s4 _ _ h)) λ q2 H5 s5 tq2=>?_
     refine q9 (ns:=bf _) (ms:=bf _) (HQ (by rw [<-cS]; exact s5 _ _ tq1)) (HQ (by rw [<-cS]; exact tq2)) ?_
     have s35:=s4.trans s5
     have s3':=s3
     have t3':=s35 _ _ t3
     replace s3:=s3.trans s35
     replace t3:=t3'
     clear s3' t3' tp tp1 tq1 tq2
     have ev:HT.dJ (bf (rss[i - 1]'(by lia))) (bf rss[i])=!brk rss i:=by
      rw [HT.jq]
      unfold brk lxt
      rw [eE ei,eE ei1]
     rw [ev]
     nofun
     cases hb:brk rss i with
     | false=>
      nofun
      obtain ⟨i',rfl⟩:∃ i',i=i'+1:=⟨i - 1,by lia⟩
      obtain ⟨ys,z,ez⟩:=nE (gw rss i')
      have er:aO rss (i'+1+1)=ys++[z+1]:=by rw [aO,if_pos ⟨hi0,hb⟩,ez,gv]
      rw [ez] at t3
      refine ⟨l,_,HR (z:Nat),rfl,rfl,HN t3,by rw [<-gq,EM],?_⟩
      nofun
      refine ⟨_,_,rfl,rfl,?_⟩
      refine jl t3 (j:=ys.length) (by rw [bP,Ay,BF]; unfold ixN; rw [if_neg (by decide),if_pos (by lia)]; congr 1; lia) ?_
      refine ⟨s3.own hl,?_,_,_,rfl⟩
      rw [aa,er]
      show some (HO.lst ((NV (ys++[z])).set ys.length (HR ((z+1:Nat):Int))))=_
      rw [ni]
      simp
     | true=>
      refine dM ?_
      nofun
      refine ⟨cr t3,?_⟩
      nofun
      refine bN t3 (by rw [bP]; exact ay (by lia)) ?_
      refine ⟨s3.own hl,?_,_,_,rfl⟩
      rw [aa,aO,if_neg (λ z=>by rw [hb] at z; exact Bool.noConfusion z.2)]
      exact congrArg (λ z=>some (HO.lst z)) (gq (aO rss i) 1)
    ·have hi0:i=0:=by lia
     subst hi0
     nofun
     refine ⟨cr t3,?_⟩
     nofun
     refine bN t3 (by rw [bP]; exact ay (by lia)) ?_
     refine ⟨s3.own hl,?_,_,_,rfl⟩
     rw [aa]
     have e1:aO rss (0+1)=[1]:=by show (if 0<0/\brk rss 0=false then qa (aO rss 0) else aO rss 0++[1])=[1]; rw [if_neg (by lia)]; rfl
     rw [e1]; rfl
   ·rintro σ H2 ⟨s2,t2,v,w,rfl⟩
    nofun
    exact k l H2 hl s2 t2
  ·refine ⟨_,(ag (aA (i:=1) sc_runs.nd rfl (Av rfl) (aT ac))
   (ag (cy A2 rfl (gn (K:=K) rfl T.aM (ao (qv 0) ac)) (dN (K:=K) (n:=2) rfl (aC (au (i:=2) sc_runs.nd rfl (Av rfl)) (aC (au (i:=3) sc_runs.nd rfl (Av rfl)) cG))) (am (cq (QW.qt (kz (az pY (qv 2) ai (aE _)) (iz (az (vS (K:=K) hr.units0) (aD (bX (K:=K)) (by rfl) T.bW cf (ao (cn (yd (K:=K)) (qv 0) (aS m5 (qv 2) ai)) ac)) (aD (bX (K:=K)) (by rfl) T.bW cf (ao (qv 3) ac)) (aE _))))) (am (kF (K:=K) (qv 1) (vG vI ai) ai)) (am (bF (de (K:=K) (qv 1) (ao ai ac)))))))
   (am (aU (qv 1))))),?_⟩
   rw [show L2.bc ["rows","lengths","place","row"] [HU a]=[some (HU a),none,none,none] from rfl]
   nofun
   refine ⟨aR (by simp),λ l hl=>?_⟩
   have s1:=(HV H).new (o:=.lst []) hl
   have tl:(upd H l (.lst [])) l=some (.lst (NV (aO rss 0))):=aa
   generalize upd H l (.lst [])=H1 at s1 tl
   nofun
   refine ⟨a,rfl,⟨_,HQ (s1 _ _ ta)⟩,dP (n:=rss.length) (λ i σ H'=>Same H H'/\H' l=some (.lst (NV (aO rss i)))/\∃ v w,σ=[some (HU a),some (HU l),v,w]) ⟨s1,tl,none,none,rfl⟩ ?_ ?_ ?_ ?_⟩
   ·rintro i σ H2 hi ⟨s2,_⟩
    have hip:i<ps.length:=by lia
    exact ⟨_,_,HQ (s2 _ _ ta),by rw [Ak,Ac hip]; rfl⟩
   ·rintro σ H2 ⟨s2,_⟩
    exact ⟨_,HQ (s2 _ _ ta),by rw [Af]; exact hpl⟩
   ·rintro i x σ H2 H3 hi ⟨s2,t2,v,w,rfl⟩ ⟨q,x1,rfl,hq,rfl,hx1⟩
    have hx2:=hx1 _ (HQ (s2 _ _ ta))
    obtain ⟨p,rfl,hp,hpm,hip⟩:=bO hx2
    refine bZ aa ?_
    dsimp only [Bw]
    have s3:=s2.new (o:=.tup [HR (i:Nat),HU p]) hq
    have t3:(upd H2 q (.tup [HR (i:Nat),HU p])) l=some (.lst (NV (aO rss i))):=by rw [aj (ak t2 hq)]; exact t2
    generalize upd H2 q (.tup [HR (i:Nat),HU p])=H3 at s3 t3
    have hlr:=jr rss i
    nofun
    refine bC (λ g=>?_) (λ g=>?_)
    ·have hi0:0<i:=by lia
     have e1:(i:Int) - 1=((i - 1:Nat):Int):=by lia
     have hip1:i - 1<ps.length:=by lia
     have ei:rss[i]? = some rss[i]:=by simp [hi]
     have ei1:rss[i - 1]? = some (rss[i - 1]'(by lia)):=Ac _
     have tp0:=hR.2 i p rss[i] hp ei
     have tp:=(hR.same s3).2 i p rss[i] hp ei
     have tp1:=(hR.same s3).2 (i - 1) ps[i - 1] _ (by simp [hip1]) ei1
     nofun
     rw [e1]
     refine vz (HQ (s3 _ _ ta)) (v:=HU ps[i - 1]) (bE (by rw [Ak,Ac hip1]; rfl)) ?_
     nofun
     refine dg tp1 λ q1 H4 s4 tq1=>?_
     nofun
     refine dg (tp.elim (λ h=>.inl (s4 _ _ h)) λ h=>.inr (s4 _ _ h)) λ q2 H5 s5 tq2=>?_
     refine q9 (ns:=bf _) (ms:=bf _) (HQ (by rw [<-cS]; exact s5 _ _ tq1)) (HQ (by rw [<-cS]; exact tq2)) ?_
     have s35:=s4.trans s5
     have s3':=s3
     have t3':=s35 _ _ t3
     replace s3:=s3.trans s35
     replace t3:=t3'
     clear s3' t3' tp tp1 tq1 tq2
     have ev:HT.dJ (bf (rss[i - 1]'(by lia))) (bf rss[i])=!brk rss i:=by
      rw [HT.jq]
      unfold brk lxt
      rw [eE ei,eE ei1]
     rw [ev]
     nofun
     cases hb:brk rss i with
     | false=>
      nofun
      obtain ⟨i',rfl⟩:∃ i',i=i'+1:=⟨i - 1,by lia⟩
      obtain ⟨ys,z,ez⟩:=nE (gw rss i')
      have er:aO rss (i'+1+1)=ys++[z+1]:=by rw [aO,if_pos ⟨hi0,hb⟩,ez,gv]
      rw [ez] at t3
      refine ⟨l,_,HR (z:Nat),rfl,rfl,HN t3,by rw [<-gq,EM],?_⟩
      nofun
      refine ⟨_,_,rfl,rfl,?_⟩
      refine jl t3 (j:=ys.length) (by rw [bP,Ay,BF]; unfold ixN; rw [if_neg (by decide),if_pos (by lia)]; congr 1; lia) ?_
      refine ⟨s3.own hl,?_,_,_,rfl⟩
      rw [aa,er]
      show some (HO.lst ((NV (ys++[z])).set ys.length (HR ((z+1:Nat):Int))))=_
      rw [ni]
      simp
     | true=>
      refine dM ?_
      nofun
      refine ⟨cr t3,?_⟩
      nofun
      refine bN t3 (by rw [bP]; exact ay (by lia)) ?_
      refine ⟨s3.own hl,?_,_,_,rfl⟩
      rw [aa,aO,if_neg (λ z=>by rw [hb] at z; exact Bool.noConfusion z.2)]
      exact congrArg (λ z=>some (HO.lst z)) (gq (aO rss i) 1)
    ·have hi0:i=0:=by lia
     subst hi0
     nofun
     refine ⟨cr t3,?_⟩
     nofun
     refine bN t3 (by rw [bP]; exact ay (by lia)) ?_
     refine ⟨s3.own hl,?_,_,_,rfl⟩
     rw [aa]
     have e1:aO rss (0+1)=[1]:=by show (if 0<0/\brk rss 0=false then qa (aO rss 0) else aO rss 0++[1])=[1]; rw [if_neg (by lia)]; rfl
     rw [e1]; rfl
   ·rintro σ H2 ⟨s2,t2,v,w,rfl⟩
    nofun
    exact k l H2 hl s2 t2
theorem rh:¬ (("lists" : Str) = "marks"):=by decide +kernel
theorem rj:¬ (("lists" : Str) = "heads"):=by decide +kernel
theorem rk:¬ (("marks" : Str) = "heads"):=by decide +kernel
noncomputable def mgF (la ma ha:Addr):List (Str×V):=[("lists",HU la),("marks",HU ma),("heads",HU ha)]
theorem ot (la ma ha:Addr):c9 "heads" (.ref ha) (c9 "marks" (.ref ma) (c9 "lists" (.ref la) []))=mgF la ma ha:=by
 show c9 "heads" (.ref ha) (c9 "marks" (.ref ma) [(("lists" : Str),HU la)])=_
 rw [gF _ _ _ rh]
 show c9 "heads" (.ref ha) [(("lists" : Str),HU la),(("marks" : Str),HU ma)]=_
 rw [gF _ _ _ rj,gF _ _ _ rk]
 rfl
theorem ou (la ma ha:Addr):(mgF la ma ha).lookup ("lists" : Str)=some (.ref la):=eP
theorem jB (la ma ha:Addr):(mgF la ma ha).lookup ("marks" : Str)=some (.ref ma):=by unfold mgF; rw [eD (AV rh),eP]
theorem fe (la ma ha:Addr):(mgF la ma ha).lookup ("heads" : Str)=some (.ref ha):=by unfold mgF; rw [eD (AV rj),eD (AV rk),eP]
theorem jC (la ma ha:Addr) {f:Str} (h1:¬ f = "lists") (h2:¬ f = "marks") (h3:¬ f = "heads"):(mgF la ma ha).lookup f=none:=by
 unfold mgF
 rw [eD h1,eD h2,eD h3]; rfl
noncomputable def HdsAt (H:Hp) (hts:List Addr) (hs:List HP):Prop:=hts.length=hs.length/\∀ (i:Nat) t x,hts[i]? = some t->hs[i]? = some x->∃ q,H t=some (.tup [.ref q,.int (x.2:Nat)])/\H q=some (.tup (NV x.1))
theorem HdsAt.same {H:Hp} {hs:List HP} (h:HdsAt H hts hs) (s:Same H H1):HdsAt H1 hts hs:=⟨h.1,λ i t x a b=>by obtain ⟨q,e1,e2⟩:=h.2 i t x a b; exact ⟨q,s _ _ e1,s _ _ e2⟩⟩
theorem HdsAt.kp {H:Hp} {hs:List HP} {ha:Addr} (h:HdsAt H hts hs) (t:H ha=some (.lst xs)) (k:∀ b o,H b=some o->b≠ha->H1 b=some o):HdsAt H1 hts hs:=⟨h.1,λ i u x a b=>by
 obtain ⟨q,e1,e2⟩:=h.2 i u x a b
 exact ⟨q,k _ _ e1 (cm e1 t (by intro z; cases z)),k _ _ e2 (cm e2 t (by intro z; cases z))⟩⟩
theorem HdsAt.take {H:Hp} {hts:List Addr} {hs:List HP} (h:HdsAt H hts hs) (k:Nat):HdsAt H (hts.take k) (hs.take k):=⟨by rw [A8,A8,h.1],λ i t x a b=>by
 rw [List.getElem?_take] at a b
 split at a
 ·rename_i g; rw [if_pos g] at b; exact h.2 i t x a b
 ·cases a⟩
theorem HdsAt.drop {H:Hp} {hts:List Addr} {hs:List HP} (h:HdsAt H hts hs) (k:Nat):HdsAt H (hts.drop k) (hs.drop k):=⟨by rw [Bc,Bc,h.1],λ i t x a b=>by
 rw [List.getElem?_drop] at a b
 exact h.2 _ t x a b⟩
theorem HdsAt.app {H:Hp} {gts:List Addr} {hs gs:List HP} (h:HdsAt H hts hs) (g:HdsAt H gts gs):HdsAt H (hts++gts) (hs++gs):=by
 refine ⟨by rw [Ay,Ay,h.1,g.1],λ i t x a b=>?_⟩
 by_cases l:i<hts.length
 ·rw [AX l] at a
  rw [AX (by rw [<-h.1]; exact l)] at b
  exact h.2 i t x a b
 ·rw [AQ (by lia)] at a
  rw [AQ (by rw [<-h.1]; lia),<-h.1] at b
  exact g.2 _ t x a b
theorem HdsAt.one {H:Hp} {t:Addr} {x:HP} (e1:H t=some (.tup [.ref q,.int (x.2:Nat)])) (e2:H q=some (.tup (NV x.1))):HdsAt H [t] [x]:=⟨rfl,λ i u y a b=>by
 match i,a,b with
 | 0,a,b=>cases a; cases b; exact ⟨q,e1,e2⟩⟩
structure MgAt (C:Addr) (H:Hp) (m la ma ha:Addr) (ls:List Addr) (pss:List (List Addr)) (hts:List Addr) (L:List (List (List Nat))) (ms:List Nat) (hs:List HP):Prop where
 ob:∃ dx,H m=some (.ins C dx (mgF la ma ha))
 tl:H la=some (.lst (ls.map HU))
 ln:ls.length=L.length
 pn:pss.length=L.length
 lr:∀ (i:Nat) l ps rss,ls[i]? = some l->pss[i]? = some ps->L[i]? = some rss->H l=some (.lst (ps.map HU))/\RowsT H ps rss
 tm:H ma=some (.lst (NV ms))
 th:H ha=some (.lst (hts.map HU))
 hh:HdsAt H hts hs
 n1:ma≠ha
 n2:la≠ma
 n3:la≠ha
 n4:∀ l∈ls,l≠ma/\l≠ha
noncomputable def KpM (ma ha:Addr) (H H':Hp):Prop:=∀ b o,H b=some o->b≠ma->b≠ha->H' b=some o
section
variable {C:Addr} {H H1:Hp} {m la ma ha:Addr} {ls:List Addr} {pss:List (List Addr)} {hts gts:List Addr} {L:List (List (List Nat))} {ms ns:List Nat} {hs gs:List HP}
theorem MgAt.wm (h:MgAt C H m la ma ha ls pss hts L ms hs):m≠ma:=by obtain ⟨dx,e⟩:=h.ob; exact cm e h.tm (by intro z; cases z)
theorem MgAt.wh (h:MgAt C H m la ma ha ls pss hts L ms hs):m≠ha:=by obtain ⟨dx,e⟩:=h.ob; exact cm e h.th (by intro z; cases z)
theorem MgAt.keep (h:MgAt C H m la ma ha ls pss hts L ms hs) (k:KpM ma ha H H1) (tm:H1 ma=some (.lst (NV ns))) (th:H1 ha=some (.lst (gts.map HU))) (hh:HdsAt H1 gts gs):MgAt C H1 m la ma ha ls pss gts L ns gs:=by
 obtain ⟨dx,e⟩:=h.ob
 refine ⟨⟨dx,k _ _ e h.wm h.wh⟩,k _ _ h.tl h.n2 h.n3,h.ln,h.pn,λ i l ps rss a b c=>?_,tm,th,hh,h.n1,h.n2,h.n3,h.n4⟩
 obtain ⟨x,y⟩:=h.lr i l ps rss a b c
 have n:=h.n4 l (Ax a)
 refine ⟨k _ _ x n.1 n.2,y.1,λ j p r d e=>?_⟩
 have z:=y.2 j p r d e
 exact k _ _ z (cm z h.tm (by intro z; cases z)) (cm z h.th (by intro z; cases z))
theorem MgAt.same (h:MgAt C H m la ma ha ls pss hts L ms hs) (s:Same H H1):MgAt C H1 m la ma ha ls pss hts L ms hs:=h.keep (λ b o e _ _=>s _ _ e) (s _ _ h.tm) (s _ _ h.th) (h.hh.same s)
theorem MgAt.list (h:MgAt C H m la ma ha ls pss hts L ms hs) (hn:n<L.length):∃ l ps,ls[n]? = some l/\H l=some (.lst (ps.map HU))/\RowsT H ps (L.getD n []):=by
 have h1:n<ls.length:=by rw [h.ln]; exact hn
 have h2:n<pss.length:=by rw [h.pn]; exact hn
 have e:L[n]? = some (L.getD n []):=by rw [Ag,Ac hn]; rfl
 obtain ⟨x,y⟩:=h.lr n ls[n] pss[n] _ (Ac h1) (Ac h2) e
 exact ⟨_,_,Ac h1,x,y⟩
end
noncomputable def uh:Sp:=λ vs H Q _=>∃ (a t q:Addr) (hts:List Addr) (hs:List HP) (x:HP),vs=[.ref a,.ref t]/\H a=some (.lst (hts.map HU))/\HdsAt H hts hs/\H t=some (.tup [.ref q,.int (x.2:Nat)])/\H q=some (.tup (NV x.1))/\Fall hs/\hs.length<=200/\
 ∀ k:Nat,k<=hs.length->(∀ y∈hs.take k,hlt x y=true)->(∀ y∈hs.drop k,hlt x y=false)->Q (.int (k:Nat)) H
theorem hU (T:Tx K mg t):FnOk P w K mg base CX0 1 t.dC t.dA ["heads","head"] uh:=by
 refine T.fh.okQ sc_place_among (λ vs H Q E h=>?_) (λ cdv A outer s H vs Q E hr h=>?_)
 ·obtain ⟨a,t,q,hts,hs,x,rfl,_⟩:=h
  rfl
 ·obtain ⟨a,t',q,hts,hs,x,rfl,ta,hh,tt,tq,hf,hn,k⟩:=h
  have hl:hts.length=hs.length:=hh.1
  refine ⟨_,(ag (vH rfl sc_place_among.nd (i:=2) (j:=3) rfl rfl (by decide) rfl rfl (ao ai (ao (ax (bI (K:=K)) (by rfl) T.cP bJ (ao (qv 0) ac)) ac)))
   (ag (iA A2 (az yc (qv 2) (qv 3) (aE _)) (ag (aA (i:=4) sc_place_among.nd rfl (Av rfl) (aS m6 (aS eJ (qv 2) (qv 3)) ai))
   (am (cq (az (yz (K:=K) hr.units) (cn (cB (K:=K)) (qv 0) (qv 4)) (qv 1) (aE _)) (am (aA (i:=2) sc_place_among.nd rfl (Av rfl) (aS eJ (qv 4) ai))) (am (aA (i:=3) sc_place_among.nd rfl (Av rfl) (qv 4)))))))
   (am (aU (qv 2))))),?_⟩
  rw [show L2.bc ["heads","head","low","high","middle"] [HU a,HU t']=[some (HU a),some (HU t'),none,none,none] from rfl]
  nofun
  refine bt (HN ta) ?_
  rw [Af]
  refine ⟨_,_,rfl,?_⟩
  dsimp only [Bw]
  nofun
  refine ⟨λ mm σ H'=>∃ lo hi:Nat,mm=hi - lo/\H=H'/\lo<=hi/\hi<=hs.length/\(∀ i,i<lo->hlt x (hs.getD i ([],0))=true)/\(∀ i,hi<=i->i<hs.length->hlt x (hs.getD i ([],0))=false)/\∃ v4,σ=[some (HU a),some (HU t'),some (HR (lo:Nat)),some (HR (hi:Nat)),v4],⟨_,0,hts.length,rfl,rfl,AC _,by lia,(λ i h=>absurd h (B1 _)),(λ i h1 h2=>by lia),_,rfl⟩,?_⟩
  rintro mm σ H' ⟨lo,hi,rfl,rfl,h1,h2,h3,h4,v4,rfl⟩
  nofun
  refine bC (λ g=>?_) (λ g=>?_)
  ·refine ⟨_,λ _ _ z=>z,?_⟩
   have em:((lo:Int)+(hi:Int)) / 2=(((lo+hi) / 2:Nat):Int):=by lia
   nofun
   rw [em]
   have hmid:(lo+hi) / 2<hs.length:=by lia
   have hm1:lo<=(lo+hi) / 2:=by lia
   have hm2:(lo+hi) / 2<hi:=by lia
   generalize (lo+hi) / 2=mid at hmid hm1 hm2
   have ets:hts[mid]? = some (hts[mid]'(by lia)):=Ac _
   have exs:hs[mid]? = some hs[mid]:=Ac hmid
   have egd:hs.getD mid ([],0)=hs[mid]:=by rw [Ag,exs]; rfl
   obtain ⟨qm,e1,e2⟩:=hh.2 mid _ _ ets exs
   refine dI (HN ta) (v:=HU (hts[mid]'(by lia))) (bE (by rw [Ak,ets]; rfl)) ?_
   nofun
   refine wf e1 tt e2 tq ?_
   have ev:HT.lt2 (bf x.1,[((x.2:Nat):Int)]) (bf hs[mid].1,[((hs[mid].2:Nat):Int)])=hlt x (hs.getD mid ([],0)):=by rw [egd]; rfl
   rw [ev]
   cases hv:hlt x (hs.getD mid ([],0)) with
   | true=>
    nofun
    refine ⟨hi - (mid+1),by lia,mid+1,hi,rfl,rfl,by lia,h2,λ i hi'=>?_,h4,_,rfl⟩
    by_cases e:i=mid
    ·rw [e]; exact hv
    ·cases z:hlt x (hs.getD i ([],0)) with
     | true=>rfl
     | false=>
      rw [j5 z (hf.get (by lia:i<mid) hmid)] at hv
      cases hv
   | false=>
    nofun
    refine ⟨mid - lo,by lia,lo,mid,rfl,rfl,hm1,by lia,h3,λ i hi1 hi2=>?_,_,rfl⟩
    by_cases e:i=mid
    ·rw [e]; exact hv
    ·exact j5 hv (hf.get (by lia:mid<i) hi2)
  ·have elh:lo=hi:=by lia
   subst elh
   nofun
   refine k lo h2 (λ y hy=>?_) (λ y hy=>?_)
   ·obtain ⟨i,hi,rfl⟩:=AS hy
    rw [A8] at hi
    have:=h3 i (by lia)
    rw [Ag,Ac (by lia)] at this
    rw [DX]; exact this
   ·obtain ⟨i,hi,rfl⟩:=AS hy
    rw [Bc] at hi
    have:=h4 (lo+i) (by lia) (by lia)
    rw [Ag,Ac (by lia)] at this
    rw [C9]; exact this
noncomputable def wr (C:Addr):Sp:=λ vs H Q _=>∃ (m la ma ha:Addr) (ls:List Addr) (pss:List (List Addr)) (hts:List Addr) (L:List (List (List Nat))) (ms:List Nat) (hs:List HP) (n:Nat),vs=[.ref m,.int (n:Nat)]/\MgAt C H m la ma ha ls pss hts L ms hs/\Fall hs/\hs.length<=100/\n<L.length/\ms.length=L.length/\L.length<=100/\
 ∀ (hts':List Addr) (hs':List HP) H',MgAt C H' m la ma ha ls pss hts' L ms hs'->Fall hs'->hs'.Perm ((hd L ms n).toList++hs)->(∀ b o,H b=some o->b≠ha->H' b=some o)->Q .non H'
theorem bh (T:Tx K mg t):FnOk P w K mg base CX0 2 t.bV t.bU ["self","number"] (wr t.af):=by
 refine T.fx.okQ sc_Merge_show_head (λ vs H Q E h=>?_) (λ cdv A outer s H vs Q E hr h=>?_)
 ·obtain ⟨m,la,ma,ha,ls,pss,hts,L,ms,hs,n,rfl,_⟩:=h
  rfl
 ·obtain ⟨m,la,ma,ha,ls,pss,hts,L,ms,hs,n,rfl,W,hf,hhl,hn,hml,hLl,k⟩:=h
  obtain ⟨dx,ob⟩:=W.ob
  obtain ⟨l,ps,el,tl,R⟩:=W.list hn
  have hpl:ps.length=(L.getD n []).length:=R.1
  have hnm:n<ms.length:=by lia
  have emn:ms[n]? = some (ms.getD n 0):=by rw [Ag,Ac hnm]; rfl
  refine ⟨_,(ag (aA (i:=2) sc_Merge_show_head.nd rfl (Av rfl) (cn (cB (K:=K)) (gE (K:=K) (qv 0)) (qv 1)))
   (ag (aA (i:=3) sc_Merge_show_head.nd rfl (Av rfl) (cn (cB (K:=K)) (gE (K:=K) (qv 0)) (qv 1)))
   (am (cq (az yc (qv 3) (ax (bI (K:=K)) (by rfl) T.cP bJ (ao (qv 2) ac)) (aE _)) (ag (aA (i:=4) sc_Merge_show_head.nd rfl (Av rfl) (cQ (ao (cn (cB (K:=K)) (qv 2) (qv 3)) (ao (qv 1) ac))))
   (am (bF (nz (K:=K) (gE (K:=K) (qv 0)) (ao (av (hU T) (hr.mono (by decide)) rfl T.i9 T.fh.kp T.iY aG (ao (gE (K:=K) (qv 0)) (ao (qv 4) ac))) (ao (qv 4) ac)))))) bi)))),?_⟩
  rw [show L2.bc ["self","number","rows","mark","head"] [HU m,HR (n:Nat)]=[some (HU m),some (HR (n:Nat)),none,none,none] from rfl]
  nofun
  refine ⟨m,t.af,dx,_,_,rfl,ob,T.aF,T.br,ou _ _ _,?_⟩
  nofun
  refine dI (HN W.tl) (v:=HU l) (bE (by rw [Ak,el]; rfl)) ?_
  nofun
  refine ⟨m,t.af,dx,_,_,rfl,ob,T.aF,T.aX,jB _ _ _,?_⟩
  nofun
  refine dI (HN W.tm) (v:=HR (ms.getD n 0:Nat)) (bE (qZ emn)) ?_
  nofun
  refine bt (HN tl) ?_
  rw [Af]
  nofun
  refine bC (λ g=>?_) (λ g=>?_)
  ·have hlt0:ms.getD n 0<(L.getD n []).length:=by lia
   have er:(L.getD n [])[ms.getD n 0]? = some ((L.getD n [])[ms.getD n 0]):=Ac hlt0
   have ep:ps[ms.getD n 0]? = some (ps[ms.getD n 0]'(by lia)):=Ac _
   have tr:=R.2 _ _ _ ep er
   have ehd:hd L ms n=some ((L.getD n [])[ms.getD n 0],n):=by unfold hd; rw [er]; rfl
   generalize (L.getD n [])[ms.getD n 0]=row at er tr ehd
   generalize ps[ms.getD n 0]'(by lia)=q at ep tr
   nofun
   refine dI (HN tl) (v:=HU q) (bE (by rw [Ak,ep]; rfl)) ?_
   nofun
   refine ⟨aR (by simp),λ t' ht'=>?_⟩
   have s1:=(HV H).new (o:=.tup [HU q,HR (n:Nat)]) ht'
   have tt':(upd H t' (.tup [HU q,HR (n:Nat)])) t'=some (.tup [HU q,HR (n:Nat)]):=aa
   generalize upd H t' (.tup [HU q,HR (n:Nat)])=H1 at s1 tt'
   have W1:=W.same s1
   nofun
   refine ⟨m,t.af,dx,_,_,rfl,s1 _ _ ob,T.aF,T.aH,fe _ _ _,?_⟩
   refine ⟨cr W1.th,?_⟩
   nofun
   refine ⟨m,t.af,dx,_,_,rfl,s1 _ _ ob,T.aF,T.aH,fe _ _ _,?_⟩
   nofun
   refine ⟨ha,t',q,hts,hs,(row,n),rfl,W1.th,W1.hh,tt',s1 _ _ tr,hf,by lia,λ kk hk h1 h2=>?_⟩
   have hhl1:hts.length=hs.length:=W1.hh.1
   nofun
   refine nA W1.th (by rw [Af]; lia) (ay (by rw [Af]; lia)) ?_
   rw [<-EO,<-EQ,show (hts.take kk).map HU++HU t'::(hts.drop kk).map HU=(hts.take kk++t'::hts.drop kk).map HU by simp]
   have kp:∀ b o,H1 b=some o->b≠ha->(upd H1 ha (.lst ((hts.take kk++t'::hts.drop kk).map HU))) b=some o:=λ b o e n=>by rw [aj n]; exact e
   nofun
   refine k (hts.take kk++t'::hts.drop kk) (hs.take kk++(row,n)::hs.drop kk) _ (W1.keep (λ b o e _ n=>kp b o e n) (kp _ _ W1.tm W1.n1) aa ?_) (hf.ins h1 h2) ?_ (λ b o e n=>kp _ _ (s1 _ _ e) n)
   ·have hA:HdsAt H1 (hts.take kk++[t']++hts.drop kk) (hs.take kk++[(row,n)]++hs.drop kk):=((W1.hh.take kk).app (HdsAt.one tt' (s1 _ _ tr))).app (W1.hh.drop kk)
    rw [A0,A0] at hA
    exact hA.kp W1.th kp
   ·rw [ehd]
    exact ql hs (row,n) kk
  ·have ehd:hd L ms n=none:=by unfold hd; rw [Dl (by lia)]; rfl
   nofun
   exact k hts hs H W hf (by rw [ehd]; exact B5 _) (λ b o e _=>e)
theorem gK {α:Type} (xs:List α):xs=[]\/∃ ys y,xs=ys++[y]:=by
 rcases Ey xs with h | ⟨ys,y,h⟩
 ·exact .inl h
 ·exact .inr ⟨ys,y,by rw [h,Ez]⟩
noncomputable def HpV (H:Hp) (v:V):Option HP->Prop
 | none=>v=.non
 | some x=>∃ q r,v=.ref q/\H q=some (.tup [.int (x.2:Nat),.ref r])/\H r=some (.tup (NV x.1))
theorem iR (L:List (List (List Nat))) (ms:List Nat) (n:Nat):(cR L ms n).length<=n:=by
 unfold cR
 exact Bg (List.length_filterMap_le ..) (by rw [Cd]; exact Ai _)
noncomputable def ui (C:Addr):Sp:=λ vs H Q _=>∃ (m la ma ha:Addr) (ls:List Addr) (pss:List (List Addr)) (hts:List Addr) (L:List (List (List Nat))) (ms:List Nat) (hs:List HP),vs=[.ref m]/\MgAt C H m la ma ha ls pss hts L ms hs/\MgOk L ms hs/\L.length<=100/\
 ∀ (v:V) (o:Option HP) (ms':List Nat) (hs':List HP) (hts':List Addr) H',NextOk L ms hs o ms' hs'->MgAt C H' m la ma ha ls pss hts' L ms' hs'->KpM ma ha H H'->HpV H' v o->Q v H'
theorem cD (T:Tx K mg t):FnOk P w K mg base CX0 3 t.eA t.ef ["self"] (ui t.af):=by
 refine T.jI.okQ sc_Merge_next (λ vs H Q E h=>?_) (λ cdv A outer s H vs Q E hr h=>?_)
 ·obtain ⟨m,la,ma,ha,ls,pss,hts,L,ms,hs,rfl,_⟩:=h
  rfl
 ·obtain ⟨m,la,ma,ha,ls,pss,hts,L,ms,hs,rfl,W,O,hL,k⟩:=h
  obtain ⟨dx,ob⟩:=W.ob
  have hhl:hts.length=hs.length:=W.hh.1
  have hsl:hs.length<=100:=by rw [O.pe.length_eq]; exact Bg (iR _ _ _) hL
  refine ⟨_,(ag (cq (jn (pW (K:=K) (gE (K:=K) (qv 0)))) (am (aU dG)) bi)
   (ag (nb (nj (K:=K) (gE (K:=K) (qv 0))) (dN (K:=K) (n:=2) rfl (aC (au (i:=1) sc_Merge_next.nd rfl (Av rfl)) (aC (au (i:=2) sc_Merge_next.nd rfl (Av rfl)) cG))))
   (ag (p8 (K:=K) (gE (K:=K) (qv 0)) (qv 2) ai)
   (ag (bF (iJ (qv 0) T.aF T.bo (bh T) (hr.mono (by decide)) T.bp aG (ao (qv 2) ac)))
   (am (aU (cQ (ao (qv 2) (ao (qv 1) ac))))))))),?_⟩
  rw [show L2.bc ["self","row","number"] [HU m]=[some (HU m),none,none] from rfl]
  nofun
  refine ⟨m,t.af,dx,_,_,rfl,ob,T.aF,T.aH,fe _ _ _,?_⟩
  refine ⟨_,zO (HN W.th),?_⟩
  rcases gK hs with rfl | ⟨hs0,x,rfl⟩
  ·have:hts=[]:=Bm.mp hhl
   subst this
   rw [show (!(FK HU []).isEmpty)=false from rfl]
   nofun
   exact k .non none ms [] [] H (.inl ⟨rfl,rfl,rfl,rfl⟩) W (λ b o e _ _=>e) rfl
  ·rcases gK hts with rfl | ⟨hts0,t',rfl⟩
   ·simp at hhl
   have hl0:hts0.length=hs0.length:=by simpa using hhl
   have e0:(!((hts0++[t']).map HU).isEmpty)=true:=by simp
   rw [e0]
   obtain ⟨q,tt,tq⟩:=W.hh.2 hts0.length t' x (by simp) (by rw [hl0]; simp)
   have h0:HdsAt H hts0 hs0:=by
    have:=W.hh.take hts0.length
    rw [Gb rfl,hl0,Gb rfl] at this
    exact this
   have hx:=gG (O.pe.mem_iff.mp (AD _ (AJ.mpr rfl)))
   have hxm:x.2<ms.length:=by rw [O.ml]; exact hx.1
   have emx:ms[x.2]? = some (ms.getD x.2 0):=by rw [Ag,Ac hxm]; rfl
   have f0:Fall hs0:=(An.mp O.fa).1
   nofun
   refine ⟨m,t.af,dx,_,_,rfl,ob,T.aF,T.aH,fe _ _ _,?_⟩
   have th:H ha=some (.lst (hts0.map HU++[HU t'])):=by rw [W.th,AN]; rfl
   refine ⟨cr th,?_⟩
   nofun
   refine nC th ?_
   have kp1:∀ b o,H b=some o->b≠ha->(upd H ha (.lst (hts0.map HU))) b=some o:=λ b o e n=>by rw [aj n]; exact e
   have W1:MgAt t.af (upd H ha (.lst (hts0.map HU))) m la ma ha ls pss hts0 L ms hs0:=W.keep (λ b o e _ n=>kp1 b o e n) (kp1 _ _ W.tm W.n1) aa (h0.kp W.th kp1)
   have tt1:=kp1 _ _ tt (cm tt W.th (by intro z; cases z))
   have tq1:=kp1 _ _ tq (cm tq W.th (by intro z; cases z))
   generalize upd H ha (.lst (hts0.map HU))=H1 at kp1 W1 tt1 tq1
   refine bZ tt1 ?_
   dsimp only [Bw]
   obtain ⟨dx1,ob1⟩:=W1.ob
   nofun
   refine ⟨m,t.af,dx1,_,_,rfl,ob1,T.aF,T.aX,jB _ _ _,?_⟩
   nofun
   refine ⟨ma,_,_,_,rfl,rfl,HN W1.tm,by lia,qZ (o:=ms.getD x.2 0) emx,?_⟩
   nofun
   refine ⟨_,_,rfl,rfl,?_⟩
   refine jl W1.tm (nc rfl (by rw [bP]; exact hxm)) ?_
   dsimp only
   have eM:(NV ms).set x.2 (HR (((ms.getD x.2 0:Nat):Int)+1))=NV (ms.set x.2 (ms.getD x.2 0+1)):=by
    rw [show (((ms.getD x.2 0:Nat):Int)+1)=((ms.getD x.2 0+1:Nat):Int) by lia,ni]
   rw [eM]
   have kp2:∀ b o,H1 b=some o->b≠ma->(upd H1 ma (.lst (NV (ms.set x.2 (ms.getD x.2 0+1))))) b=some o:=λ b o e n=>by rw [aj n]; exact e
   have W2:MgAt t.af (upd H1 ma (.lst (NV (ms.set x.2 (ms.getD x.2 0+1))))) m la ma ha ls pss hts0 L (ms.set x.2 (ms.getD x.2 0+1)) hs0:=W1.keep (λ b o e n _=>kp2 b o e n) aa (kp2 _ _ W1.th (AV W1.n1)) (W1.hh.kp W1.tm kp2)
   have tq2:=kp2 _ _ tq1 (cm tq1 W1.tm (by intro z; cases z))
   generalize upd H1 ma (.lst (NV (ms.set x.2 (ms.getD x.2 0+1))))=H2 at kp2 W2 tq2
   obtain ⟨dx2,ob2⟩:=W2.ob
   nofun
   refine ⟨m,dx2,_,rfl,ob2,jC _ _ _ (by decide +kernel) (by decide +kernel) (by decide +kernel),?_⟩
   nofun
   refine ⟨m,la,ma,ha,ls,pss,hts0,L,_,hs0,x.2,rfl,W2,f0,by simp at hsl; lia,hx.1,by rw [Bj]; exact O.ml,hL,λ hts' hs' H3 W3 F3 P3 kp3=>?_⟩
   have tq3:=kp3 _ _ tq2 (cm tq2 W2.th (by intro z; cases z))
   nofun
   refine ⟨aR (by simp),λ q2 hq2=>?_⟩
   have s4:=(HV H3).new (o:=.tup [HR (x.2:Nat),HU q]) hq2
   exact k (.ref q2) (some x) _ hs' hts' _ (.inr ⟨hs0,x,rfl,rfl,rfl,F3,P3⟩) (W3.same s4) (λ b o e n1 n2=>s4 _ _ (kp3 _ _ (kp2 _ _ (kp1 _ _ e n2) n1) n2)) ⟨q2,q,rfl,aa,s4 _ _ tq3⟩
noncomputable def LsF (b:Bool) (H:Hp) (a:Addr) (ls:List Addr) (pss:List (List Addr)) (L:List (List (List Nat))):Prop:=
 H a=some (if b=true then .lst (ls.map HU) else .tup (ls.map HU))/\ls.length=L.length/\pss.length=L.length/\∀ (i:Nat) l ps rss,ls[i]? = some l->pss[i]? = some ps->L[i]? = some rss->H l=some (if b=true then .lst (ps.map HU) else .tup (ps.map HU))/\RowsS H ps rss
theorem cE {b:Bool} {H:Hp} {pss:List (List Addr)} {L:List (List (List Nat))} (h:LsF b H a ls pss L) (s:Same H H1):LsF b H1 a ls pss L:=⟨s _ _ h.1,h.2.1,h.2.2.1,λ i l ps rss x y z=>by obtain ⟨u,v⟩:=h.2.2.2 i l ps rss x y z; exact ⟨s _ _ u,v.same s⟩⟩
theorem kY {rss:List (List Nat)} (h:gY rss):∀ m,m<=rss.length->0<m->∃ z,aO rss m=[z]
 | 0,_,h0=>absurd h0 (BC _)
 | 1,_,_=>⟨1,by rw [aO,if_neg (by lia)]; rfl⟩
 | m+2,hm,_=>by
  obtain ⟨z,e⟩:=kY h (m+1) (by lia) (by lia)
  refine ⟨z+1,?_⟩
  have hb:brk rss (m+1)=false:=by
   unfold brk
   have:=Bb.mp h m (m+1) (by lia) (by lia) (by lia)
   rw [Ag,Ac (by lia),show m+1 - 1=m by lia,Ag,Ac (by lia)]
   exact this
  rw [aO,if_pos ⟨by lia,hb⟩,e]
  exact gv [] z
theorem fS (h:gY rss):(aO rss rss.length).length<=1:=by
 rcases Bz rss.length with z | z
 ·rw [z]; exact AC _
 ·obtain ⟨y,e⟩:=kY h rss.length (Ai _) z
  rw [e]; exact Ai _
noncomputable def uj:Sp:=λ vs H Q _=>∃ (b:Bool) (a:Addr) (ls:List Addr) (pss:List (List Addr)) (L:List (List (List Nat))),vs=[.ref a]/\LsF b H a ls pss L/\L.length<=100/\(∀ r∈L,gY r/\r.length<=200)/\∀ H',Same H H'->Q .non H'
theorem dZ (T:Tx K mg t):FnOk P w K mg base CX0 3 t.ci t.cg ["lists"] uj:=by
 refine T.bA.okQ sc_check_rising (λ vs H Q E h=>?_) (λ cdv A outer s H vs Q E hr h=>?_)
 ·obtain ⟨b,a,ls,pss,L,rfl,_⟩:=h
  rfl
 ·obtain ⟨b,a,ls,pss,L,rfl,F,hL,hR,k⟩:=h
  have hll:ls.length=L.length:=F.2.1
  have hpl:pss.length=L.length:=F.2.2.1
  have step:∀ {i:Nat} (hi:i<L.length),∃ ps,(H (ls[i]'(by lia))=some (.lst (ps.map HU))\/H (ls[i]'(by lia))=some (.tup (ps.map HU)))/\RowsS H ps L[i]:=λ {i} hi=>by
   obtain ⟨u,v⟩:=F.2.2.2 i _ (pss[i]'(by lia)) L[i] (Ac (by lia)) (Ac _) (Ac hi)
   refine ⟨_,?_,v⟩
   cases b with
   | true=>exact .inl u
   | false=>exact .inr u
  have hta:H a=some (.lst (ls.map HU))\/H a=some (.tup (ls.map HU)):=by
   have:=F.1
   cases b with
   | true=>exact .inl this
   | false=>exact .inr this
  rcases hta with ta | ta
  ·refine ⟨_,(am (cy A2 rfl (dO (K:=K) rfl T.aM (ao (qv 0) ac)) (dN (K:=K) (n:=2) rfl (aC (au (i:=1) sc_check_rising.nd rfl (Av rfl)) (aC (au (i:=2) sc_check_rising.nd rfl (Av rfl)) cG))) (am (cq (az pY (ax (bI (K:=K)) (by rfl) T.cP bJ (ao (av (iQ T) (hr.mono (by decide)) rfl T.lp T.jJ.kp T.lm aG (ao (qv 2) ac)) ac)) ai (aE _)) (am kD) bi)))),?_⟩
   rw [show L2.bc ["lists","place","rows"] [HU a]=[some (HU a),none,none] from rfl]
   nofun
   refine ⟨a,rfl,⟨_,HN ta⟩,dP (n:=L.length) (λ i σ H'=>Same H H'/\∃ v w,σ=[some (HU a),v,w]) ⟨HV _,none,none,rfl⟩ ?_ ?_ ?_ ?_⟩
   ·rintro i σ H2 hi ⟨s2,_⟩
    exact ⟨_,HU (ls[i]'(by lia)),HN (s2 _ _ ta),by rw [Ak,Ac (by lia)]; rfl⟩
   ·rintro σ H2 ⟨s2,_⟩
    exact ⟨_,HN (s2 _ _ ta),by rw [Af]; exact hll⟩
   ·rintro i x σ H2 H3 hi ⟨s2,v,w,rfl⟩ ⟨q,x1,rfl,hq,rfl,hx1⟩
    have hx2:=hx1 _ (HN (s2 _ _ ta))
    rw [Ak,Ac (show i<ls.length by lia)] at hx2
    cases hx2
    obtain ⟨ps,u,v'⟩:=step hi
    obtain ⟨hr1,hr2⟩:=hR _ (AU hi)
    refine bZ aa ?_
    dsimp only [Bw]
    have s3:=s2.new (o:=.tup [HR (i:Nat),HU (ls[i]'(by lia))]) hq
    generalize upd H2 q (.tup [HR (i:Nat),HU (ls[i]'(by lia))])=H3 at s3
    nofun
    refine ⟨_,ps,L[i],rfl,u.elim (λ e=>.inl (s3 _ _ e)) (λ e=>.inr (s3 _ _ e)),v'.same s3,hr2,λ l H4 hl s4 tl=>?_⟩
    nofun
    refine bt (HN tl) ?_
    rw [bP]
    have hf:=fS hr1
    nofun
    rw [decide_eq_false (show ¬ (((aO L[i] L[i].length).length:Nat):Int) > 1 by lia)]
    nofun
    exact ⟨s3.trans s4,_,_,rfl⟩
   ·rintro σ H2 ⟨s2,v,w,rfl⟩
    nofun
    exact k _ s2
  ·refine ⟨_,(am (cy A2 rfl (gn (K:=K) rfl T.aM (ao (qv 0) ac)) (dN (K:=K) (n:=2) rfl (aC (au (i:=1) sc_check_rising.nd rfl (Av rfl)) (aC (au (i:=2) sc_check_rising.nd rfl (Av rfl)) cG))) (am (cq (az pY (ax (bI (K:=K)) (by rfl) T.cP bJ (ao (av (iQ T) (hr.mono (by decide)) rfl T.lp T.jJ.kp T.lm aG (ao (qv 2) ac)) ac)) ai (aE _)) (am kD) bi)))),?_⟩
   rw [show L2.bc ["lists","place","rows"] [HU a]=[some (HU a),none,none] from rfl]
   nofun
   refine ⟨a,rfl,⟨_,HQ ta⟩,dP (n:=L.length) (λ i σ H'=>Same H H'/\∃ v w,σ=[some (HU a),v,w]) ⟨HV _,none,none,rfl⟩ ?_ ?_ ?_ ?_⟩
   ·rintro i σ H2 hi ⟨s2,_⟩
    exact ⟨_,HU (ls[i]'(by lia)),HQ (s2 _ _ ta),by rw [Ak,Ac (by lia)]; rfl⟩
   ·rintro σ H2 ⟨s2,_⟩
    exact ⟨_,HQ (s2 _ _ ta),by rw [Af]; exact hll⟩
   ·rintro i x σ H2 H3 hi ⟨s2,v,w,rfl⟩ ⟨q,x1,rfl,hq,rfl,hx1⟩
    have hx2:=hx1 _ (HQ (s2 _ _ ta))
    rw [Ak,Ac (show i<ls.length by lia)] at hx2
    cases hx2
    obtain ⟨ps,u,v'⟩:=step hi
    obtain ⟨hr1,hr2⟩:=hR _ (AU hi)
    refine bZ aa ?_
    dsimp only [Bw]
    have s3:=s2.new (o:=.tup [HR (i:Nat),HU (ls[i]'(by lia))]) hq
    generalize upd H2 q (.tup [HR (i:Nat),HU (ls[i]'(by lia))])=H3 at s3
    nofun
    refine ⟨_,ps,L[i],rfl,u.elim (λ e=>.inl (s3 _ _ e)) (λ e=>.inr (s3 _ _ e)),v'.same s3,hr2,λ l H4 hl s4 tl=>?_⟩
    nofun
    refine bt (HN tl) ?_
    rw [bP]
    have hf:=fS hr1
    nofun
    rw [decide_eq_false (show ¬ (((aO L[i] L[i].length).length:Nat):Int) > 1 by lia)]
    nofun
    exact ⟨s3.trans s4,_,_,rfl⟩
   ·rintro σ H2 ⟨s2,v,w,rfl⟩
    nofun
    exact k _ s2
theorem ow {p:Nat} (hp:p<=1000):(p:Int).natAbs.log2<1920:=by
 rw [C0]
 rcases Bz p with rfl | h0
 ·decide
 ·exact AA ((DD (by lia)).mpr (show p<2 ^ 10 by lia)) (by decide)
noncomputable def uk (C:Addr):Sp:=λ vs H Q _=>∃ (e:Addr) (p:Nat),vs=[.ref e,.int p]/\p<=1000/\H e=some (hJ e C none)/\
 ∀ dx,H dx=none->dx≠e->Q .non (upd (upd H dx (.xd [("place",.int p)])) e (hJ e C (some dx)))
theorem cj (T:Tx K mg t):FnOk P w K mg base CX0 1 t.bz t.bx ["self","place"] (uk t.ae):=by
 refine T.eF.okQ dY (λ vs H Q E h=>?_) (λ cdv A outer s H vs Q E hr h=>?_)
 ·obtain ⟨e,p,rfl,_⟩:=h
  rfl
 ·obtain ⟨e,p,rfl,hp,he,k⟩:=h
  refine ⟨_,(ag (bF (wj (K:=K) rfl T.fI T.cW (ao (qv 0) (ao (tR (qv 1)) ac))))
   (am (t7 (K:=K) (qv 0) (qv 1)))),?_⟩
  rw [show L2.bc ["self","place"] [HU e,HR p]=[some (HU e),some (HR p)] from rfl]
  nofun
  refine ⟨_,rfl,ow hp,λ y=>?_⟩
  nofun
  refine ⟨e,_,_,none,_,rfl,he,T.bv,?_⟩
  nofun
  refine ⟨e,_,rfl,he,T.aP,λ dx h1 h2=>?_⟩
  nofun
  exact k dx h1 h2
noncomputable def LsN (H:Hp) (xs:List Addr) (xss:List (List Addr)) (L:List (List (List Nat))):Prop:=∀ (j:Nat) l ps rss,xs[j]? = some l->xss[j]? = some ps->L[j]? = some rss->H l=some (.lst (ps.map HU))/\RowsT H ps rss
theorem bD {H:Hp} {xs:List Addr} {xss:List (List Addr)} {L:List (List (List Nat))} (h:LsN H xs xss L) (s:Same H H1):LsN H1 xs xss L:=λ j l ps rss a b c=>by obtain ⟨u,v⟩:=h j l ps rss a b c; exact ⟨s _ _ u,v.same s⟩
theorem fT {H:Hp} {xs:List Addr} {xss:List (List Addr)} {L:List (List (List Nat))} (h:LsN H xs xss L) (hl:xs.length=xss.length) (e:L[xs.length]? = some rss) (t:H l=some (.lst (ps.map HU))) (R:RowsT H ps rss):LsN H (xs++[l]) (xss++[ps]) L:=by
 intro j l' ps' rss' a b c
 by_cases g:j<xs.length
 ·rw [AX g] at a
  rw [AX (by lia)] at b
  exact h j l' ps' rss' a b c
 ·rw [AQ (by lia)] at a
  rw [AQ (by lia),<-hl] at b
  have hj:j - xs.length=0:=by have:=aY a; simp at this; lia
  rw [hj] at a b
  cases a; cases b
  have:j=xs.length:=by lia
  rw [this,e] at c
  cases c
  exact ⟨t,R⟩
noncomputable def ox (C:Addr):Sp:=λ vs H Q _=>∃ (b:Bool) (m dx a:Addr) (ls:List Addr) (pss:List (List Addr)) (L:List (List (List Nat))),vs=[.ref m,.ref a]/\H m=some (.ins C dx [])/\LsF b H a ls pss L/\L.length<=100/\(∀ r∈L,gY r/\r.length<=200)/\
 ∀ (la ma ha:Addr) (ls':List Addr) (pss':List (List Addr)) (hts:List Addr) (hs:List HP) H',H la=none->H ma=none->H ha=none->(∀ l∈ls',H l=none)->MgAt C H' m la ma ha ls' pss' hts L (Ap L.length 0) hs->MgOk L (Ap L.length 0) hs->(∀ b o,H b=some o->b≠m->H' b=some o)->Q .non H'
theorem RowsT.snocS {H:Hp} {p:Addr} (h:RowsT H ps rss) (e:H p=some (.tup (NV r))):RowsT H (ps++[p]) (rss++[r]):=RowsT.snoc h e
theorem kZ (k:Nat):(Ap k [HR 0]).flatten=NV (Ap k 0):=by
 unfold NV
 rw [List.map_replicate]
 induction k with
 | zero=>rfl
 | succ k ih=>rw [BN,Bu,ih,BN]; rfl
theorem dh (T:Tx K mg t):FnOk P w K mg base CX0 4 t.ba t.aZ ["self","lists"] (ox t.af):=by
 refine T.dH.okQ sc_Merge___init__ (λ vs H Q E h=>?_) (λ cdv A outer s H vs Q E hr h=>?_)
 ·obtain ⟨b,m,dx,a,ls,pss,L,rfl,_⟩:=h
  rfl
 ·obtain ⟨b,m,dx,a,ls,pss,L,rfl,hm,F,hL,hR,k⟩:=h
  have hll:ls.length=L.length:=F.2.1
  have hpl:pss.length=L.length:=F.2.2.1
  have hta:(H a=some (.lst (ls.map HU))/\∀ (i:Nat) l ps rss,ls[i]? = some l->pss[i]? = some ps->L[i]? = some rss->H l=some (.lst (ps.map HU))/\RowsS H ps rss)\/(H a=some (.tup (ls.map HU))/\∀ (i:Nat) l ps rss,ls[i]? = some l->pss[i]? = some ps->L[i]? = some rss->H l=some (.tup (ps.map HU))/\RowsS H ps rss):=by
   have h1:=F.1
   have h2:=F.2.2.2
   cases b with
   | true=>exact .inl ⟨h1,h2⟩
   | false=>exact .inr ⟨h1,h2⟩
  rcases hta with ⟨ta,hi0⟩ | ⟨ta,hi0⟩
  ·refine ⟨_,(ag (bF (av (dZ T) (hr.mono (by decide)) rfl T.c8 T.bA.kp T.c7 aG (ao (qv 1) ac)))
   (ag (eZ (K:=K) (qv 0) (cH (N:=["rows"]) (tgs:=["rows"]) (frs:=[]) (ix:=[]) ⟨rfl,by decide +kernel,rfl,by decide +kernel,rfl,rfl,AK,AK,rfl⟩ rfl (c4 (K:=K) (qv 1)) (λ _ _ _ _=>(au (i:=0) (by show BJ (["rows"]:List Str); decide +kernel) rfl (Av rfl))) (λ _ _ _ _=>(cH (N:=["row"]) (tgs:=["row"]) (frs:=[]) (ix:=[]) ⟨rfl,by decide +kernel,rfl,by decide +kernel,rfl,rfl,AK,AK,rfl⟩ rfl (c4 (K:=K) (qv 0)) (λ _ _ _ _=>(au (i:=0) (by show BJ (["row"]:List Str); decide +kernel) rfl (Av rfl))) (λ _ _ _ _=>(aD (bX (K:=K)) (by rfl) T.bW cf (ao (qv 0) ac)))))))
   (ag (eZ (K:=K) (qv 0) (aS sU (aT (ao ai ac)) (ax (bI (K:=K)) (by rfl) T.cP bJ (ao (qv 1) ac))))
   (ag (eZ (K:=K) (qv 0) (aT ac))
   (am (cy A2 rfl (bM rfl T.cx (ao (ax (bI (K:=K)) (by rfl) T.cP bJ (ao (qv 1) ac)) ac)) (au (i:=2) sc_Merge___init__.nd rfl (Av rfl)) (am (bF (iJ (qv 0) T.aF T.bo (bh T) (hr.mono (by decide)) T.bp aG (ao (qv 2) ac)))))))))),?_⟩
   rw [show L2.bc ["self","lists","number"] [HU m,HU a]=[some (HU m),some (HU a),none] from rfl]
   nofun
   refine ⟨b,a,ls,pss,L,rfl,F,hL,hR,λ H1 s1=>?_⟩
   have ta1:=s1 _ _ ta
   nofun
   refine ⟨a,rfl,⟨_,HN ta1⟩,dl (a:=a) (vs:=ls.map HU) (λ i ys σ H'=>Same H1 H'/\(∃ (xs:List Addr) (xss:List (List Addr)),ys=xs.map HU/\xs.length=i/\xss.length=i/\(∀ x∈xs,H1 x=none)/\LsN H' xs xss L)/\i<=ls.length/\∃ v,σ=[v]) (by rw [Af]; exact ay (by lia)) (λ i ys σ H' h=>by obtain ⟨_,⟨xs,xss,rfl,e,_⟩,_⟩:=h; rw [Af,e]) (λ i ys σ H' h=>HN (h.1 _ _ ta1)) ⟨HV _,⟨[],[],rfl,rfl,rfl,(λ x h=>nomatch h),λ j l ps rss h=>by simp at h⟩,AC _,none,rfl⟩ ?_ ?_⟩
   ·rintro i ys σ H2 x hx ⟨s2,⟨xs,xss,rfl,hxl,hxs,hxn,hX⟩,hi,v,rfl⟩
    have hil:=aY hx
    obtain ⟨l,rfl,el,_,hi'⟩:=bO hx
    have hiL:i<L.length:=by lia
    have eL:L[i]? = some L[i]:=Ac hiL
    obtain ⟨tl,R⟩:=hi0 i l (pss[i]'(by lia)) L[i] el (Ac _) eL
    generalize pss[i]'(by lia)=ps at tl R
    have hrl:=(hR _ (AU hiL)).2
    generalize L[i]=rss at eL R hrl
    have hpl':ps.length=rss.length:=R.1
    have s12:=s1.trans s2
    have tl2:=s12 _ _ tl
    nofun
    refine ⟨l,rfl,⟨_,HN tl2⟩,dl (a:=l) (vs:=ps.map HU) (λ j ys σ H'=>Same H2 H'/\(∃ zs:List Addr,ys=zs.map HU/\zs.length=j/\RowsT H' zs (rss.take j))/\j<=ps.length/\∃ v,σ=[v]) (by rw [Af]; exact ay (by lia)) (λ j ys σ H' h=>by obtain ⟨_,⟨zs,rfl,e,_⟩,_⟩:=h; rw [Af,e]) (λ j ys σ H' h=>HN (h.1 _ _ tl2)) ⟨HV _,⟨[],rfl,rfl,rfl,λ i p r h=>by simp at h⟩,AC _,none,rfl⟩ ?_ ?_⟩
    ·rintro j ys σ H3 x hx ⟨s3,⟨zs,rfl,hzl,hZ⟩,hj,v,rfl⟩
     have hjl:=aY hx
     obtain ⟨p,rfl,ep,_,hj'⟩:=bO hx
     have hjr:j<rss.length:=by lia
     have er:rss[j]? = some rss[j]:=Ac hjr
     have tp:=R.2 j p _ ep er
     have s13:=s12.trans s3
     nofun
     refine dg (tp.elim (λ e=>.inl (s13 _ _ e)) (λ e=>.inr (s13 _ _ e))) λ q H4 s4 tq=>?_
     refine Nx.mk hjl ⟨s3.trans s4,⟨zs++[q],by rw [AN]; rfl,by simp [hzl],?_⟩,by lia,_,rfl⟩
     rw [Cf,er]
     exact RowsT.snocS (hZ.same s4) tq
    ·rintro ys σ H3 ⟨s3,⟨zs,rfl,hzl,hZ⟩,hj,v,rfl⟩ c hc
     rw [AR (by rw [Af]; lia)] at hZ
     have s4:=s3.new (o:=.lst (zs.map HU)) hc
     have s34:=(HV H3).new (o:=.lst (zs.map HU)) hc
     refine Nx.mk hil ⟨s2.trans s4,⟨xs++[c],xss++[zs],by rw [AN]; rfl,by simp [hxl],by simp [hxs],λ x hx=>?_,?_⟩,by lia,_,rfl⟩
     ·rcases AO.mp hx with g | g
      ·exact hxn x g
      ·rw [AJ.mp g]; exact (s2.trans s3).free hc
     ·exact fT (bD hX s4) (by lia) (by rw [hxl]; exact eL) aa (hZ.same s34)
   rintro ys σ H2 ⟨s2,⟨xs,xss,rfl,hxl,hxs,hxn,hX⟩,hi,v,rfl⟩ la hla
   rw [Af] at hxl hxs
   have s3:=s2.new (o:=.lst (xs.map HU)) hla
   have tla:(upd H2 la (.lst (xs.map HU))) la=some (.lst (xs.map HU)):=aa
   have X3:=bD hX ((HV H2).new (o:=.lst (xs.map HU)) hla)
   have s03:=s1.trans s3
   have hla0:H la=none:=(s1.trans s2).free hla
   have hxla:∀ x∈xs,x≠la:=λ x hx e=>by
    obtain ⟨j,hj,rfl⟩:=AS hx
    have hjL:j<L.length:=by lia
    obtain ⟨u,_⟩:=hX j _ (xss[j]'(by lia)) _ (Ac hj) (Ac _) (Ac hjL)
    rw [e,hla] at u; cases u
   generalize upd H2 la (.lst (xs.map HU))=H3 at s3 tla X3 s03
   have hm3:=s03 _ _ hm
   have hmla:m≠la:=cm hm3 tla (by intro z; cases z)
   nofun
   refine ⟨m,t.af,dx,_,rfl,hm3,T.aF,T.br,by show 0<1000; decide,?_⟩
   have kp4:∀ c o,H3 c=some o->c≠m->(upd H3 m (.ins t.af dx (c9 "lists" (.ref la) []))) c=some o:=λ c o e hc=>by rw [aj hc]; exact e
   have ob4:(upd H3 m (.ins t.af dx (c9 "lists" (.ref la) []))) m=some (.ins t.af dx (c9 "lists" (.ref la) [])):=aa
   generalize upd H3 m (.ins t.af dx (c9 "lists" (.ref la) []))=H4 at kp4 ob4
   have ham:a≠m:=λ e=>by rw [e,hm] at ta; cases ta
   have ta4:=kp4 _ _ (s03 _ _ ta) ham
   nofun
   refine ⟨aR (by simp),λ z0 hz0=>?_⟩
   have s5:=(HV H4).new (o:=.lst [HR 0]) hz0
   have tz0:(upd H4 z0 (.lst [HR 0])) z0=some (.lst [HR 0]):=aa
   generalize upd H4 z0 (.lst [HR 0])=H5 at s5 tz0
   nofun
   refine bt (HN (s5 _ _ ta4)) ?_
   rw [Af,hll]
   nofun
   refine ⟨z0,_,_,rfl,rfl,tz0,by lia,by lia,aR (by simp; lia),λ ma hma=>?_⟩
   have erep:(Ap (((L.length:Nat):Int).toNat) [HR 0]).flatten=NV (Ap L.length 0):=by rw [CD]; exact kZ _
   rw [erep]
   have s6:=s5.new (o:=.lst (NV (Ap L.length 0))) hma
   have tma:(upd H5 ma (.lst (NV (Ap L.length 0)))) ma=some (.lst (NV (Ap L.length 0))):=aa
   generalize upd H5 ma (.lst (NV (Ap L.length 0)))=H6 at s6 tma
   have ob6:=s6 _ _ ob4
   have hF1:=e8 "lists" (HU la) []
   have hmam:ma≠m:=cm tma ob6 (by intro z; cases z)
   nofun
   refine ⟨m,t.af,dx,_,rfl,ob6,T.aF,T.aX,by simp at hF1; lia,?_⟩
   have hF2:=e8 "marks" (HU ma) (c9 "lists" (HU la) [])
   generalize eF2:c9 "marks" (HU ma) (c9 "lists" (HU la) [])=F2 at hF2
   have kp7:∀ c o,H6 c=some o->c≠m->(upd H6 m (.ins t.af dx F2)) c=some o:=λ c o e hc=>by rw [aj hc]; exact e
   have ob7:(upd H6 m (.ins t.af dx F2)) m=some (.ins t.af dx F2):=aa
   generalize upd H6 m (.ins t.af dx F2)=H7 at kp7 ob7
   nofun
   refine ⟨aR (by simp),λ ha hha=>?_⟩
   have s8:=(HV H7).new (o:=.lst []) hha
   have tha:(upd H7 ha (.lst [])) ha=some (.lst (([]:List Addr).map HU)):=aa
   generalize upd H7 ha (.lst [])=H8 at s8 tha
   have ob8:=s8 _ _ ob7
   have hham:ha≠m:=cm tha ob8 (by intro z; cases z)
   nofun
   refine ⟨m,t.af,dx,_,rfl,ob8,T.aF,T.aH,by simp at hF1; lia,?_⟩
   rw [<-eF2,ot]
   have k39:∀ c o,H3 c=some o->c≠m->(upd H8 m (.ins t.af dx (mgF la ma ha))) c=some o:=λ c o e hc=>by rw [aj hc]; exact s8 _ _ (kp7 _ _ (s6 _ _ (kp4 c o e hc)) hc)
   have tma9:(upd H8 m (.ins t.af dx (mgF la ma ha))) ma=some (.lst (NV (Ap L.length 0))):=by rw [aj hmam]; exact s8 _ _ (kp7 _ _ tma hmam)
   have tha9:(upd H8 m (.ins t.af dx (mgF la ma ha))) ha=some (.lst (([]:List Addr).map HU)):=by rw [aj hham]; exact tha
   have ob9:(upd H8 m (.ins t.af dx (mgF la ma ha))) m=some (.ins t.af dx (mgF la ma ha)):=aa
   have mah:ma≠ha:=λ e=>by rw [<-e,kp7 _ _ tma hmam] at hha; cases hha
   have lama:la≠ma:=λ e=>by rw [<-e,s5 _ _ (kp4 _ _ tla (AV hmla))] at hma; cases hma
   have laha:la≠ha:=λ e=>by rw [<-e,kp7 _ _ (s6 _ _ (kp4 _ _ tla (AV hmla))) (AV hmla)] at hha; cases hha
   generalize upd H8 m (.ins t.af dx (mgF la ma ha))=H9 at k39 tma9 tha9 ob9
   have tX:∀ (j:Nat) l ps rss,xs[j]? = some l->xss[j]? = some ps->L[j]? = some rss->H3 l=some (.lst (ps.map HU))/\RowsT H3 ps rss:=X3
   have W9:MgAt t.af H9 m la ma ha xs xss [] L (Ap L.length 0) []:=by
    refine ⟨⟨dx,ob9⟩,k39 _ _ tla (AV hmla),by lia,by lia,λ j l ps rss x y z=>?_,tma9,tha9,⟨rfl,λ i t x h=>by simp at h⟩,mah,lama,laha,λ l hl=>?_⟩
    ·obtain ⟨u,v⟩:=X3 j l ps rss x y z
     refine ⟨k39 _ _ u (cm u hm3 (by intro z; cases z)),v.1,λ i p r x y=>?_⟩
     have z:=v.2 i p r x y
     exact k39 _ _ z (cm z hm3 (by intro z; cases z))
    ·obtain ⟨j,hj,rfl⟩:=AS hl
     obtain ⟨u,_⟩:=X3 j _ (xss[j]'(by lia)) _ (Ac hj) (Ac _) (Ac (by lia))
     have um:xs[j]≠m:=cm u hm3 (by intro z; cases z)
     exact ⟨(λ e=>by rw [<-e,s5 _ _ (kp4 _ _ u um)] at hma; cases hma),(λ e=>by rw [<-e,kp7 _ _ (s6 _ _ (kp4 _ _ u um)) um] at hha; cases hha)⟩
   have n03:∀ c,c≠m->H9 c=none->H c=none:=λ c hc e=>by
    cases z:H c with
    | none=>rfl
    | some o=>rw [k39 _ _ (s03 _ _ z) hc] at e; cases e
   have hma0:H ma=none:=by
    cases z:H ma with
    | none=>rfl
    | some o=>rw [s5 _ _ (kp4 _ _ (s03 _ _ z) hmam)] at hma; cases hma
   have hha0:H ha=none:=by
    cases z:H ha with
    | none=>rfl
    | some o=>rw [kp7 _ _ (s6 _ _ (kp4 _ _ (s03 _ _ z) hham)) hham] at hha; cases hha
   have ta9:=k39 _ _ (s03 _ _ ta) ham
   nofun
   refine bt (HN ta9) ?_
   rw [Af,hll]
   nofun
   refine ⟨L.length,rfl,by lia,by lia,dc (n:=L.length) (λ i σ H'=>(∀ c o,H9 c=some o->c≠ha->H' c=some o)/\(∃ (hts:List Addr) (hs:List HP),MgAt t.af H' m la ma ha xs xss hts L (Ap L.length 0) hs/\Fall hs/\hs.Perm (cR L (Ap L.length 0) i))/\∃ v2,σ=[some (HU m),some (HU a),v2]) ⟨λ c o e _=>e,⟨[],[],W9,Cc,B5 _⟩,_,rfl⟩ ?_ ?_⟩
   ·rintro i σ HA hi ⟨kA,⟨hts,hs,WA,fA,pA⟩,v2,rfl⟩
    obtain ⟨dxA,obA⟩:=WA.ob
    have ei:(0:Int)+(i:Int)=((i:Nat):Int):=by lia
    nofun
    refine ⟨m,dxA,_,rfl,obA,jC _ _ _ (by decide +kernel) (by decide +kernel) (by decide +kernel),?_⟩
    nofun
    refine ⟨m,la,ma,ha,xs,xss,hts,L,_,hs,i,by rw [ei]; rfl,WA,fA,by rw [pA.length_eq]; exact Bg (iR _ _ _) (by lia),hi,by rw [BR],hL,λ hts' hs' HB WB fB pB kB=>?_⟩
    nofun
    refine ⟨λ c o e n=>kB _ _ (kA c o e n) n,⟨hts',hs',WB,fB,?_⟩,_,rfl⟩
    rw [fw]
    exact pB.trans ((pA.append_left _).trans BV)
   ·rintro σ HA ⟨kA,⟨hts,hs,WA,fA,pA⟩,v2,rfl⟩
    nofun
    exact k la ma ha xs xss hts hs HA hla0 hma0 hha0 (λ l hl=>s1.free (hxn l hl)) WA ⟨by rw [BR],fA,pA⟩ λ c o e hc=>kA _ _ (k39 _ _ (s03 _ _ e) hc) (ak e hha0)
  ·refine ⟨_,(ag (bF (av (dZ T) (hr.mono (by decide)) rfl T.c8 T.bA.kp T.c7 aG (ao (qv 1) ac)))
   (ag (eZ (K:=K) (qv 0) (cH (N:=["rows"]) (tgs:=["rows"]) (frs:=[]) (ix:=[]) ⟨rfl,by decide +kernel,rfl,by decide +kernel,rfl,rfl,AK,AK,rfl⟩ rfl (m4 (K:=K) (qv 1)) (λ _ _ _ _=>(au (i:=0) (by show BJ (["rows"]:List Str); decide +kernel) rfl (Av rfl))) (λ _ _ _ _=>(cH (N:=["row"]) (tgs:=["row"]) (frs:=[]) (ix:=[]) ⟨rfl,by decide +kernel,rfl,by decide +kernel,rfl,rfl,AK,AK,rfl⟩ rfl (m4 (K:=K) (qv 0)) (λ _ _ _ _=>(au (i:=0) (by show BJ (["row"]:List Str); decide +kernel) rfl (Av rfl))) (λ _ _ _ _=>(aD (bX (K:=K)) (by rfl) T.bW cf (ao (qv 0) ac)))))))
   (ag (eZ (K:=K) (qv 0) (aS sU (aT (ao ai ac)) (ax (bI (K:=K)) (by rfl) T.cP bJ (ao (qv 1) ac))))
   (ag (eZ (K:=K) (qv 0) (aT ac))
   (am (cy A2 rfl (bM rfl T.cx (ao (ax (bI (K:=K)) (by rfl) T.cP bJ (ao (qv 1) ac)) ac)) (au (i:=2) sc_Merge___init__.nd rfl (Av rfl)) (am (bF (iJ (qv 0) T.aF T.bo (bh T) (hr.mono (by decide)) T.bp aG (ao (qv 2) ac)))))))))),?_⟩
   rw [show L2.bc ["self","lists","number"] [HU m,HU a]=[some (HU m),some (HU a),none] from rfl]
   nofun
   refine ⟨b,a,ls,pss,L,rfl,F,hL,hR,λ H1 s1=>?_⟩
   have ta1:=s1 _ _ ta
   nofun
   refine ⟨a,rfl,⟨_,HQ ta1⟩,jp (a:=a) (vs:=ls.map HU) (λ i ys σ H'=>Same H1 H'/\(∃ (xs:List Addr) (xss:List (List Addr)),ys=xs.map HU/\xs.length=i/\xss.length=i/\(∀ x∈xs,H1 x=none)/\LsN H' xs xss L)/\i<=ls.length/\∃ v,σ=[v]) (by rw [Af]; exact ay (by lia)) (λ i ys σ H' h=>by obtain ⟨_,⟨xs,xss,rfl,e,_⟩,_⟩:=h; rw [Af,e]) (λ i ys σ H' h=>HQ (h.1 _ _ ta1)) ⟨HV _,⟨[],[],rfl,rfl,rfl,(λ x h=>nomatch h),λ j l ps rss h=>by simp at h⟩,AC _,none,rfl⟩ ?_ ?_⟩
   ·rintro i ys σ H2 x hx ⟨s2,⟨xs,xss,rfl,hxl,hxs,hxn,hX⟩,hi,v,rfl⟩
    have hil:=aY hx
    obtain ⟨l,rfl,el,_,hi'⟩:=bO hx
    have hiL:i<L.length:=by lia
    have eL:L[i]? = some L[i]:=Ac hiL
    obtain ⟨tl,R⟩:=hi0 i l (pss[i]'(by lia)) L[i] el (Ac _) eL
    generalize pss[i]'(by lia)=ps at tl R
    have hrl:=(hR _ (AU hiL)).2
    generalize L[i]=rss at eL R hrl
    have hpl':ps.length=rss.length:=R.1
    have s12:=s1.trans s2
    have tl2:=s12 _ _ tl
    nofun
    refine ⟨l,rfl,⟨_,HQ tl2⟩,jp (a:=l) (vs:=ps.map HU) (λ j ys σ H'=>Same H2 H'/\(∃ zs:List Addr,ys=zs.map HU/\zs.length=j/\RowsT H' zs (rss.take j))/\j<=ps.length/\∃ v,σ=[v]) (by rw [Af]; exact ay (by lia)) (λ j ys σ H' h=>by obtain ⟨_,⟨zs,rfl,e,_⟩,_⟩:=h; rw [Af,e]) (λ j ys σ H' h=>HQ (h.1 _ _ tl2)) ⟨HV _,⟨[],rfl,rfl,rfl,λ i p r h=>by simp at h⟩,AC _,none,rfl⟩ ?_ ?_⟩
    ·rintro j ys σ H3 x hx ⟨s3,⟨zs,rfl,hzl,hZ⟩,hj,v,rfl⟩
     have hjl:=aY hx
     obtain ⟨p,rfl,ep,_,hj'⟩:=bO hx
     have hjr:j<rss.length:=by lia
     have er:rss[j]? = some rss[j]:=Ac hjr
     have tp:=R.2 j p _ ep er
     have s13:=s12.trans s3
     nofun
     refine dg (tp.elim (λ e=>.inl (s13 _ _ e)) (λ e=>.inr (s13 _ _ e))) λ q H4 s4 tq=>?_
     refine Nx.mk hjl ⟨s3.trans s4,⟨zs++[q],by rw [AN]; rfl,by simp [hzl],?_⟩,by lia,_,rfl⟩
     rw [Cf,er]
     exact RowsT.snocS (hZ.same s4) tq
    ·rintro ys σ H3 ⟨s3,⟨zs,rfl,hzl,hZ⟩,hj,v,rfl⟩ c hc
     rw [AR (by rw [Af]; lia)] at hZ
     have s4:=s3.new (o:=.lst (zs.map HU)) hc
     have s34:=(HV H3).new (o:=.lst (zs.map HU)) hc
     refine Nx.mk hil ⟨s2.trans s4,⟨xs++[c],xss++[zs],by rw [AN]; rfl,by simp [hxl],by simp [hxs],λ x hx=>?_,?_⟩,by lia,_,rfl⟩
     ·rcases AO.mp hx with g | g
      ·exact hxn x g
      ·rw [AJ.mp g]; exact (s2.trans s3).free hc
     ·exact fT (bD hX s4) (by lia) (by rw [hxl]; exact eL) aa (hZ.same s34)
   rintro ys σ H2 ⟨s2,⟨xs,xss,rfl,hxl,hxs,hxn,hX⟩,hi,v,rfl⟩ la hla
   rw [Af] at hxl hxs
   have s3:=s2.new (o:=.lst (xs.map HU)) hla
   have tla:(upd H2 la (.lst (xs.map HU))) la=some (.lst (xs.map HU)):=aa
   have X3:=bD hX ((HV H2).new (o:=.lst (xs.map HU)) hla)
   have s03:=s1.trans s3
   have hla0:H la=none:=(s1.trans s2).free hla
   have hxla:∀ x∈xs,x≠la:=λ x hx e=>by
    obtain ⟨j,hj,rfl⟩:=AS hx
    have hjL:j<L.length:=by lia
    obtain ⟨u,_⟩:=hX j _ (xss[j]'(by lia)) _ (Ac hj) (Ac _) (Ac hjL)
    rw [e,hla] at u; cases u
   generalize upd H2 la (.lst (xs.map HU))=H3 at s3 tla X3 s03
   have hm3:=s03 _ _ hm
   have hmla:m≠la:=cm hm3 tla (by intro z; cases z)
   nofun
   refine ⟨m,t.af,dx,_,rfl,hm3,T.aF,T.br,by show 0<1000; decide,?_⟩
   have kp4:∀ c o,H3 c=some o->c≠m->(upd H3 m (.ins t.af dx (c9 "lists" (.ref la) []))) c=some o:=λ c o e hc=>by rw [aj hc]; exact e
   have ob4:(upd H3 m (.ins t.af dx (c9 "lists" (.ref la) []))) m=some (.ins t.af dx (c9 "lists" (.ref la) [])):=aa
   generalize upd H3 m (.ins t.af dx (c9 "lists" (.ref la) []))=H4 at kp4 ob4
   have ham:a≠m:=λ e=>by rw [e,hm] at ta; cases ta
   have ta4:=kp4 _ _ (s03 _ _ ta) ham
   nofun
   refine ⟨aR (by simp),λ z0 hz0=>?_⟩
   have s5:=(HV H4).new (o:=.lst [HR 0]) hz0
   have tz0:(upd H4 z0 (.lst [HR 0])) z0=some (.lst [HR 0]):=aa
   generalize upd H4 z0 (.lst [HR 0])=H5 at s5 tz0
   nofun
   refine mV (HQ (s5 _ _ ta4)) ?_
   rw [Af,hll]
   nofun
   refine ⟨z0,_,_,rfl,rfl,tz0,by lia,by lia,aR (by simp; lia),λ ma hma=>?_⟩
   have erep:(Ap (((L.length:Nat):Int).toNat) [HR 0]).flatten=NV (Ap L.length 0):=by rw [CD]; exact kZ _
   rw [erep]
   have s6:=s5.new (o:=.lst (NV (Ap L.length 0))) hma
   have tma:(upd H5 ma (.lst (NV (Ap L.length 0)))) ma=some (.lst (NV (Ap L.length 0))):=aa
   generalize upd H5 ma (.lst (NV (Ap L.length 0)))=H6 at s6 tma
   have ob6:=s6 _ _ ob4
   have hF1:=e8 "lists" (HU la) []
   have hmam:ma≠m:=cm tma ob6 (by intro z; cases z)
   nofun
   refine ⟨m,t.af,dx,_,rfl,ob6,T.aF,T.aX,by simp at hF1; lia,?_⟩
   have hF2:=e8 "marks" (HU ma) (c9 "lists" (HU la) [])
   generalize eF2:c9 "marks" (HU ma) (c9 "lists" (HU la) [])=F2 at hF2
   have kp7:∀ c o,H6 c=some o->c≠m->(upd H6 m (.ins t.af dx F2)) c=some o:=λ c o e hc=>by rw [aj hc]; exact e
   have ob7:(upd H6 m (.ins t.af dx F2)) m=some (.ins t.af dx F2):=aa
   generalize upd H6 m (.ins t.af dx F2)=H7 at kp7 ob7
   nofun
   refine ⟨aR (by simp),λ ha hha=>?_⟩
   have s8:=(HV H7).new (o:=.lst []) hha
   have tha:(upd H7 ha (.lst [])) ha=some (.lst (([]:List Addr).map HU)):=aa
   generalize upd H7 ha (.lst [])=H8 at s8 tha
   have ob8:=s8 _ _ ob7
   have hham:ha≠m:=cm tha ob8 (by intro z; cases z)
   nofun
   refine ⟨m,t.af,dx,_,rfl,ob8,T.aF,T.aH,by simp at hF1; lia,?_⟩
   rw [<-eF2,ot]
   have k39:∀ c o,H3 c=some o->c≠m->(upd H8 m (.ins t.af dx (mgF la ma ha))) c=some o:=λ c o e hc=>by rw [aj hc]; exact s8 _ _ (kp7 _ _ (s6 _ _ (kp4 c o e hc)) hc)
   have tma9:(upd H8 m (.ins t.af dx (mgF la ma ha))) ma=some (.lst (NV (Ap L.length 0))):=by rw [aj hmam]; exact s8 _ _ (kp7 _ _ tma hmam)
   have tha9:(upd H8 m (.ins t.af dx (mgF la ma ha))) ha=some (.lst (([]:List Addr).map HU)):=by rw [aj hham]; exact tha
   have ob9:(upd H8 m (.ins t.af dx (mgF la ma ha))) m=some (.ins t.af dx (mgF la ma ha)):=aa
   have mah:ma≠ha:=λ e=>by rw [<-e,kp7 _ _ tma hmam] at hha; cases hha
   have lama:la≠ma:=λ e=>by rw [<-e,s5 _ _ (kp4 _ _ tla (AV hmla))] at hma; cases hma
   have laha:la≠ha:=λ e=>by rw [<-e,kp7 _ _ (s6 _ _ (kp4 _ _ tla (AV hmla))) (AV hmla)] at hha; cases hha
   generalize upd H8 m (.ins t.af dx (mgF la ma ha))=H9 at k39 tma9 tha9 ob9
   have tX:∀ (j:Nat) l ps rss,xs[j]? = some l->xss[j]? = some ps->L[j]? = some rss->H3 l=some (.lst (ps.map HU))/\RowsT H3 ps rss:=X3
   have W9:MgAt t.af H9 m la ma ha xs xss [] L (Ap L.length 0) []:=by
    refine ⟨⟨dx,ob9⟩,k39 _ _ tla (AV hmla),by lia,by lia,λ j l ps rss x y z=>?_,tma9,tha9,⟨rfl,λ i t x h=>by simp at h⟩,mah,lama,laha,λ l hl=>?_⟩
    ·obtain ⟨u,v⟩:=X3 j l ps rss x y z
     refine ⟨k39 _ _ u (cm u hm3 (by intro z; cases z)),v.1,λ i p r x y=>?_⟩
     have z:=v.2 i p r x y
     exact k39 _ _ z (cm z hm3 (by intro z; cases z))
    ·obtain ⟨j,hj,rfl⟩:=AS hl
     obtain ⟨u,_⟩:=X3 j _ (xss[j]'(by lia)) _ (Ac hj) (Ac _) (Ac (by lia))
     have um:xs[j]≠m:=cm u hm3 (by intro z; cases z)
     exact ⟨(λ e=>by rw [<-e,s5 _ _ (kp4 _ _ u um)] at hma; cases hma),(λ e=>by rw [<-e,kp7 _ _ (s6 _ _ (kp4 _ _ u um)) um] at hha; cases hha)⟩
   have n03:∀ c,c≠m->H9 c=none->H c=none:=λ c hc e=>by
    cases z:H c with
    | none=>rfl
    | some o=>rw [k39 _ _ (s03 _ _ z) hc] at e; cases e
   have hma0:H ma=none:=by
    cases z:H ma with
    | none=>rfl
    | some o=>rw [s5 _ _ (kp4 _ _ (s03 _ _ z) hmam)] at hma; cases hma
   have hha0:H ha=none:=by
    cases z:H ha with
    | none=>rfl
    | some o=>rw [kp7 _ _ (s6 _ _ (kp4 _ _ (s03 _ _ z) hham)) hham] at hha; cases hha
   have ta9:=k39 _ _ (s03 _ _ ta) ham
   nofun
   refine mV (HQ ta9) ?_
   rw [Af,hll]
   nofun
   refine ⟨L.length,rfl,by lia,by lia,dc (n:=L.length) (λ i σ H'=>(∀ c o,H9 c=some o->c≠ha->H' c=some o)/\(∃ (hts:List Addr) (hs:List HP),MgAt t.af H' m la ma ha xs xss hts L (Ap L.length 0) hs/\Fall hs/\hs.Perm (cR L (Ap L.length 0) i))/\∃ v2,σ=[some (HU m),some (HU a),v2]) ⟨λ c o e _=>e,⟨[],[],W9,Cc,B5 _⟩,_,rfl⟩ ?_ ?_⟩
   ·rintro i σ HA hi ⟨kA,⟨hts,hs,WA,fA,pA⟩,v2,rfl⟩
    obtain ⟨dxA,obA⟩:=WA.ob
    have ei:(0:Int)+(i:Int)=((i:Nat):Int):=by lia
    nofun
    refine ⟨m,dxA,_,rfl,obA,jC _ _ _ (by decide +kernel) (by decide +kernel) (by decide +kernel),?_⟩
    nofun
    refine ⟨m,la,ma,ha,xs,xss,hts,L,_,hs,i,by rw [ei]; rfl,WA,fA,by rw [pA.length_eq]; exact Bg (iR _ _ _) (by lia),hi,by rw [BR],hL,λ hts' hs' HB WB fB pB kB=>?_⟩
    nofun
    refine ⟨λ c o e n=>kB _ _ (kA c o e n) n,⟨hts',hs',WB,fB,?_⟩,_,rfl⟩
    rw [fw]
    exact pB.trans ((pA.append_left _).trans BV)
   ·rintro σ HA ⟨kA,⟨hts,hs,WA,fA,pA⟩,v2,rfl⟩
    nofun
    exact k la ma ha xs xss hts hs HA hla0 hma0 hha0 (λ l hl=>s1.free (hxn l hl)) WA ⟨by rw [BR],fA,pA⟩ λ c o e hc=>kA _ _ (k39 _ _ (s03 _ _ e) hc) (ak e hha0)
noncomputable def Dn (rss:List (List Nat)):Prop:=∃ m,0<m/\m<rss.length/\brk rss m=true
theorem qx (xs:List Nat):(qa xs).length=xs.length:=by unfold qa; rw [Bj]
theorem oy (rss:List (List Nat)):∀ {m k:Nat},m<=k->(aO rss m).length<=(aO rss k).length:=by
 intro m k h
 induction k with
 | zero=>rw [show m=0 by lia]; exact Ai _
 | succ k ih=>
  by_cases e:m=k+1
  ·subst e; exact Ai _
  ·refine Bg (ih (by lia)) ?_
   rw [aO]
   split
   ·rw [qx]; exact Ai _
   ·rw [Ay]; exact Cs _ _
theorem k6 (h:Dn rss):1<(aO rss rss.length).length:=by
 obtain ⟨m,h0,hm,hb⟩:=h
 refine AA ?_ (oy rss (show m+1<=rss.length by lia))
 obtain ⟨k,rfl⟩:∃ k,m=k+1:=⟨m - 1,by lia⟩
 have hp:0<(aO rss (k+1)).length:=Dx.mpr (gw rss k)
 rw [aO,if_neg (λ z=>by rw [hb] at z; cases z.2),Ay]
 simp only [Az,A9]
 lia
noncomputable def qy (C:Addr):Sp:=λ vs H Q E=>∃ (b:Bool) (a:Addr) (ls:List Addr) (pss:List (List Addr)) (L:List (List (List Nat))) (j:Nat),vs=[.ref a]/\LsF b H a ls pss L/\L.length<=100/\(∀ r∈L,r.length<=200)/\j<L.length/\(∀ i,i<j->gY (L.getD i []))/\Dn (L.getD j [])/\
 ∀ dx H',Same H H'->H' dx=some (.xd [("place",.int (j:Nat))])->E (.ref C) (some dx) H'
theorem fJ (T:Tx K mg t):FnOk P w K mg base (CXE P w) 3 t.ci t.cg ["lists"] (qy t.ae):=by
 refine T.bA.okL sc_check_rising (λ vs H Q E h=>?_) (λ cdv A outer s H vs Q E hr h=>?_)
 ·obtain ⟨b,a,ls,pss,L,j,rfl,_⟩:=h
  rfl
 ·obtain ⟨b,a,ls,pss,L,j,rfl,F,hL,hR,hj,hris,hdn,k⟩:=h
  have hll:ls.length=L.length:=F.2.1
  have hpl:pss.length=L.length:=F.2.2.1
  have step:∀ {i:Nat} (hi:i<L.length),∃ ps,(H (ls[i]'(by lia))=some (.lst (ps.map HU))\/H (ls[i]'(by lia))=some (.tup (ps.map HU)))/\RowsS H ps L[i]:=λ {i} hi=>by
   obtain ⟨u,v⟩:=F.2.2.2 i _ (pss[i]'(by lia)) L[i] (Ac (by lia)) (Ac _) (Ac hi)
   refine ⟨_,?_,v⟩
   cases b with
   | true=>exact .inl u
   | false=>exact .inr u
  have gd:∀ {i:Nat} (hi:i<L.length),L.getD i []=L[i]:=λ {i} hi=>by rw [Ag,Ac hi]; rfl
  have hta:H a=some (.lst (ls.map HU))\/H a=some (.tup (ls.map HU)):=by
   have:=F.1
   cases b with
   | true=>exact .inl this
   | false=>exact .inr this
  rcases hta with ta | ta
  ·refine ⟨_,(am (n9 (dO (K:=K) rfl T.aM (ao (qv 0) ac)) (dN (K:=K) (n:=2) rfl (aC (au (i:=1) sc_check_rising.nd rfl (Av rfl)) (aC (au (i:=2) sc_check_rising.nd rfl (Av rfl)) cG))) (eN (tN (az pY (ax (bI (K:=K)) (by rfl) T.cP bJ (ao (av (iQ T) (hr.mono (by decide)) rfl T.lp T.jJ.kp T.lm aG (ao (qv 2) ac)) ac)) ai (aE _)) (eN (jz T.bv (cj T) (hr.mono (by decide)) T.cz T.ck rfl T.eC rfl (ao (qv 1) ac))) (kJ bi))))),?_⟩
   rw [show L2.bc ["lists","place","rows"] [HU a]=[some (HU a),none,none] from rfl]
   nofun
   refine ⟨a,rfl,⟨_,HN ta⟩,dP (n:=L.length) (λ i σ H'=>Same H H'/\i<=j/\∃ v w,σ=[some (HU a),v,w]) ⟨HV _,AC _,none,none,rfl⟩ ?_ ?_ ?_ ?_⟩
   ·rintro i σ H2 hi ⟨s2,_⟩
    exact ⟨_,HU (ls[i]'(by lia)),HN (s2 _ _ ta),by rw [Ak,Ac (by lia)]; rfl⟩
   ·rintro σ H2 ⟨s2,_⟩
    exact ⟨_,HN (s2 _ _ ta),by rw [Af]; exact hll⟩
   ·rintro i x σ H2 H3 hi ⟨s2,hij,v,w,rfl⟩ ⟨q,x1,rfl,hq,rfl,hx1⟩
    have hx2:=hx1 _ (HN (s2 _ _ ta))
    rw [Ak,Ac (show i<ls.length by lia)] at hx2
    cases hx2
    obtain ⟨ps,u,v'⟩:=step hi
    have hr2:=hR _ (AU hi)
    refine bZ aa ?_
    dsimp only [Bw]
    have s3:=s2.new (o:=.tup [HR (i:Nat),HU (ls[i]'(by lia))]) hq
    generalize upd H2 q (.tup [HR (i:Nat),HU (ls[i]'(by lia))])=H3 at s3
    nofun
    refine ⟨_,ps,L[i],rfl,u.elim (λ e=>.inl (s3 _ _ e)) (λ e=>.inr (s3 _ _ e)),v'.same s3,hr2,λ l H4 hl s4 tl=>?_⟩
    nofun
    refine bt (HN tl) ?_
    rw [bP]
    by_cases e:i=j
    ·subst e
     rw [gd hi] at hdn
     have hf:=k6 hdn
     nofun
     rw [decide_eq_true (show (((aO L[i] L[i].length).length:Nat):Int) > 1 by lia)]
     nofun
     refine ⟨by simp [sizeLine_eq],λ e he=>⟨e,i,rfl,by lia,aa,λ dx h1 h2=>⟨rfl,some dx,aa,k dx _ (λ c o hc=>?_) ?_⟩⟩⟩
     ·have hc4:=(s3.trans s4) _ _ hc
      have n1:c≠e:=λ z=>by rw [z,he] at hc4; cases hc4
      have n2:c≠dx:=λ z=>by rw [z] at hc4; rw [aj h2,hc4] at h1; cases h1
      rw [eI n1,aj n1,aj n2,aj n1]; exact hc4
     ·rw [eI h2,aj h2,aa]
    ·have hr1:=hris i (by lia)
     rw [gd hi] at hr1
     have hf:=fS hr1
     nofun
     rw [decide_eq_false (show ¬ (((aO L[i] L[i].length).length:Nat):Int) > 1 by lia)]
     nofun
     exact ⟨s3.trans s4,by lia,_,_,rfl⟩
   ·rintro σ H2 ⟨s2,hij,v,w,rfl⟩
    exact absurd hij (by lia)
  ·refine ⟨_,(am (n9 (gn (K:=K) rfl T.aM (ao (qv 0) ac)) (dN (K:=K) (n:=2) rfl (aC (au (i:=1) sc_check_rising.nd rfl (Av rfl)) (aC (au (i:=2) sc_check_rising.nd rfl (Av rfl)) cG))) (eN (tN (az pY (ax (bI (K:=K)) (by rfl) T.cP bJ (ao (av (iQ T) (hr.mono (by decide)) rfl T.lp T.jJ.kp T.lm aG (ao (qv 2) ac)) ac)) ai (aE _)) (eN (jz T.bv (cj T) (hr.mono (by decide)) T.cz T.ck rfl T.eC rfl (ao (qv 1) ac))) (kJ bi))))),?_⟩
   rw [show L2.bc ["lists","place","rows"] [HU a]=[some (HU a),none,none] from rfl]
   nofun
   refine ⟨a,rfl,⟨_,HQ ta⟩,dP (n:=L.length) (λ i σ H'=>Same H H'/\i<=j/\∃ v w,σ=[some (HU a),v,w]) ⟨HV _,AC _,none,none,rfl⟩ ?_ ?_ ?_ ?_⟩
   ·rintro i σ H2 hi ⟨s2,_⟩
    exact ⟨_,HU (ls[i]'(by lia)),HQ (s2 _ _ ta),by rw [Ak,Ac (by lia)]; rfl⟩
   ·rintro σ H2 ⟨s2,_⟩
    exact ⟨_,HQ (s2 _ _ ta),by rw [Af]; exact hll⟩
   ·rintro i x σ H2 H3 hi ⟨s2,hij,v,w,rfl⟩ ⟨q,x1,rfl,hq,rfl,hx1⟩
    have hx2:=hx1 _ (HQ (s2 _ _ ta))
    rw [Ak,Ac (show i<ls.length by lia)] at hx2
    cases hx2
    obtain ⟨ps,u,v'⟩:=step hi
    have hr2:=hR _ (AU hi)
    refine bZ aa ?_
    dsimp only [Bw]
    have s3:=s2.new (o:=.tup [HR (i:Nat),HU (ls[i]'(by lia))]) hq
    generalize upd H2 q (.tup [HR (i:Nat),HU (ls[i]'(by lia))])=H3 at s3
    nofun
    refine ⟨_,ps,L[i],rfl,u.elim (λ e=>.inl (s3 _ _ e)) (λ e=>.inr (s3 _ _ e)),v'.same s3,hr2,λ l H4 hl s4 tl=>?_⟩
    nofun
    refine bt (HN tl) ?_
    rw [bP]
    by_cases e:i=j
    ·subst e
     rw [gd hi] at hdn
     have hf:=k6 hdn
     nofun
     rw [decide_eq_true (show (((aO L[i] L[i].length).length:Nat):Int) > 1 by lia)]
     nofun
     refine ⟨by simp [sizeLine_eq],λ e he=>⟨e,i,rfl,by lia,aa,λ dx h1 h2=>⟨rfl,some dx,aa,k dx _ (λ c o hc=>?_) ?_⟩⟩⟩
     ·have hc4:=(s3.trans s4) _ _ hc
      have n1:c≠e:=λ z=>by rw [z,he] at hc4; cases hc4
      have n2:c≠dx:=λ z=>by rw [z] at hc4; rw [aj h2,hc4] at h1; cases h1
      rw [eI n1,aj n1,aj n2,aj n1]; exact hc4
     ·rw [eI h2,aj h2,aa]
    ·have hr1:=hris i (by lia)
     rw [gd hi] at hr1
     have hf:=fS hr1
     nofun
     rw [decide_eq_false (show ¬ (((aO L[i] L[i].length).length:Nat):Int) > 1 by lia)]
     nofun
     exact ⟨s3.trans s4,by lia,_,_,rfl⟩
   ·rintro σ H2 ⟨s2,hij,v,w,rfl⟩
    exact absurd hij (by lia)
noncomputable def Flt (b:Bool) (H:Hp) (a:Addr) (ls:List Addr) (pss:List (List Addr)) (L:List (List (List Nat))) (j:Nat):Prop:=
 LsF b H a ls pss L/\L.length<=100/\(∀ r∈L,r.length<=200)/\j<L.length/\(∀ i,i<j->gY (L.getD i []))/\Dn (L.getD j [])
noncomputable def k7 (C:Addr):Sp:=λ vs H Q E=>∃ (m:Addr) (b:Bool) (a:Addr) (ls:List Addr) (pss:List (List Addr)) (L:List (List (List Nat))) (j:Nat),vs=[.ref m,.ref a]/\Flt b H a ls pss L j/\
 ∀ dx H',Same H H'->H' dx=some (.xd [("place",.int (j:Nat))])->E (.ref C) (some dx) H'
theorem cT (T:Tx K mg t):FnOk P w K mg base (CXE P w) 4 t.ba t.aZ ["self","lists"] (k7 t.ae):=by
 refine T.dH.okX sc_Merge___init__ (λ vs H Q E h=>?_) (λ cdv A outer s H vs Q E hr h=>?_)
 ·obtain ⟨m,b,a,ls,pss,L,j,rfl,_⟩:=h
  rfl
 ·obtain ⟨m,b,a,ls,pss,L,j,rfl,⟨F,hL,hR,hj,hris,hdn⟩,k⟩:=h
  refine ⟨_,(kK (nL (kL (fJ T) (hr.mono (by decide)) rfl T.c8 T.bA.kp T.c7 (ao (qv 1) ac)))
   (kJ (ag (eZ (K:=K) (qv 0) (cH (N:=["rows"]) (tgs:=["rows"]) (frs:=[]) (ix:=[]) ⟨rfl,by decide +kernel,rfl,by decide +kernel,rfl,rfl,AK,AK,rfl⟩ rfl (c4 (K:=K) (qv 1)) (λ _ _ _ _=>(au (i:=0) (by show BJ (["rows"]:List Str); decide +kernel) rfl (Av rfl))) (λ _ _ _ _=>(cH (N:=["row"]) (tgs:=["row"]) (frs:=[]) (ix:=[]) ⟨rfl,by decide +kernel,rfl,by decide +kernel,rfl,rfl,AK,AK,rfl⟩ rfl (c4 (K:=K) (qv 0)) (λ _ _ _ _=>(au (i:=0) (by show BJ (["row"]:List Str); decide +kernel) rfl (Av rfl))) (λ _ _ _ _=>(aD (bX (K:=K)) (by rfl) T.bW cf (ao (qv 0) ac)))))))
   (ag (eZ (K:=K) (qv 0) (aS sU (aT (ao ai ac)) (ax (bI (K:=K)) (by rfl) T.cP bJ (ao (qv 1) ac))))
   (ag (eZ (K:=K) (qv 0) (aT ac))
   (am (cy A2 rfl (bM rfl T.cx (ao (ax (bI (K:=K)) (by rfl) T.cP bJ (ao (qv 1) ac)) ac)) (au (i:=2) sc_Merge___init__.nd rfl (Av rfl)) (am (bF (iJ (qv 0) T.aF T.bo (bh T) (hr.mono (by decide)) T.bp aG (ao (qv 2) ac))))))))))),?_⟩
  rw [show L2.bc ["self","lists","number"] [HU m,HU a]=[some (HU m),some (HU a),none] from rfl]
  nofun
  exact ⟨b,a,ls,pss,L,j,rfl,F,hL,hR,hj,hris,hdn,λ dx H' s hd=>⟨_,rfl,k dx H' s hd⟩⟩
noncomputable def oz (C:Addr):Sp:=λ vs H Q E=>∃ (b:Bool) (a:Addr) (ls:List Addr) (pss:List (List Addr)) (L:List (List (List Nat))) (j:Nat),vs=[.ref a]/\Flt b H a ls pss L j/\
 ∀ dx H',Same H H'->H' dx=some (.xd [("place",.int (j:Nat))])->E (.ref C) (some dx) H'
theorem gL (T:Tx K mg t):FnOk P w K mg base (CXE P w) 6 t.bS t.bR ["lists"] (oz t.ae):=by
 refine T.bQ.okX sc_many_merged (λ vs H Q E h=>?_) (λ cdv A outer s H vs Q E hr h=>?_)
 ·obtain ⟨b,a,ls,pss,L,j,rfl,_⟩:=h
  rfl
 ·obtain ⟨b,a,ls,pss,L,j,rfl,⟨F,hL,hR,hj,hris,hdn⟩,k⟩:=h
  refine ⟨_,(kK (re (i:=1) sc_many_merged.nd rfl (Av rfl) (kU T.cv (cT T) (hr.mono (by decide)) rfl T.ja T.cw (ao (qv 0) ac)))
   (kJ (ag (aA (i:=2) sc_many_merged.nd rfl (Av rfl) (aT ac))
   (ag (aA (i:=3) sc_many_merged.nd rfl (Av rfl) (fR (qv 1) T.aF T.cU (cD T) (hr.mono (by decide)) T.cV aG ))
   (ag (iA A2 (az nR (qv 3) dG (aE _)) (ag (bF (de (K:=K) (qv 2) (ao (qv 3) ac)))
   (am (aA (i:=3) sc_many_merged.nd rfl (Av rfl) (fR (qv 1) T.aF T.cU (cD T) (hr.mono (by decide)) T.cV aG )))))
   (am (aU (qv 2)))))))),?_⟩
  rw [show L2.bc ["lists","merge","told","pair"] [HU a]=[some (HU a),none,none,none] from rfl]
  nofun
  unfold tV
  nofun
  intro w dx hw hdx hne
  have sN:Same H (upd (upd H dx (.own w)) w (.ins t.af dx [])):=λ b u e=>by
   rw [aj (ak e hw),aj (ak e hdx)]; exact e
  exact ⟨w,b,a,ls,pss,L,j,rfl,⟨cE F sN,hL,hR,hj,hris,hdn⟩,λ dx H' s hd=>⟨_,rfl,k dx H' (sN.trans s) hd⟩⟩
section
variable {K:Ae} {H:Hp} {Q:VK}
theorem oA {lo hi:Option Int} (h1:H a=some (.tup xs)) (h:∀ p H',Same H H'->H' p=some (.tup (mf xs lo hi))->Q (.ref p) H'):tE (.ref a) lo hi H Q:=⟨a,xs,rfl,h1,h⟩
end
noncomputable def qz:Sp:=λ vs H Q _=>∃ (p:Addr) (n b:Nat),vs=[.ref p,.int n,.int b]/\Tp2 H p/\n<=200/\2<=b/\b<=64/\∀ (l:Addr) (ps:List Addr) (rss:List (List Nat)) (w:Nat) H',H l=none->H' l=some (.lst (ps.map HU))->RowsT H' ps rss->rss.length=n->Good rss w b->w<=120->l≠p->St2 p H H'->Q (.ref l) H'
theorem ul (T:Tx K mg t):FnOk P w K mg base CX0 2 t.oW t.oQ ["_law_tape_here","_law_many_here","_law_base"] qz:=by
 refine T.rz.okQ sc_rows (λ vs H Q E h=>?_) (λ cdv A outer s H vs Q E hr h=>?_)
 ·obtain ⟨p,n,b,rfl,_⟩:=h
  rfl
 ·obtain ⟨p,n,b,rfl,hT,hn,hb,hb2,k⟩:=h
  refine ⟨_,(ag (aA (i:=3) sc_rows.nd rfl (Av rfl) (av (aV T) (hr.mono (by decide)) rfl T.bL T.bB.kp T.bK aG (ao (qv 0) (ao ai ac))))
   (ag (cq (az uF (av (aV T) (hr.mono (by decide)) rfl T.bL T.bB.kp T.bK aG (ao (qv 0) (ao ai ac))) ai (aE _)) (am (aA (i:=3) sc_rows.nd rfl (Av rfl) (cn (cB (K:=K)) (aT (ao ai (ao ai (ao ai (ao ai (ao ai ac)))))) (av (aV T) (hr.mono (by decide)) rfl T.bL T.bB.kp T.bK aG (ao (qv 0) (ao ai ac)))))) bi)
   (ag (aA (i:=4) sc_rows.nd rfl (FS rfl) (cn (cB (K:=K)) (aT (ao (qv 2) (ao ai ac))) (av (aV T) (hr.mono (by decide)) rfl T.bL T.bB.kp T.bK aG (ao (qv 0) (ao ai ac)))))
   (ag (aA (i:=5) sc_rows.nd rfl (Av rfl) (aT ac))
   (ag (cy A2 rfl (bM rfl T.cx (ao (qv 1) ac)) (au (i:=6) sc_rows.nd rfl (Av rfl)) (ag (aA (i:=7) sc_rows.nd rfl (Av rfl) (aD (bX (K:=K)) (by rfl) T.bW cf (ao (cH (N:=["_law_column","_law_tape_here","_law_top"]) (tgs:=["_law_column"]) (frs:=["_law_tape_here","_law_top"]) (ix:=[0,4]) ⟨rfl,by decide +kernel,rfl,by decide +kernel,rfl,rfl,⟨⟨rfl,rfl,_,rfl,rfl⟩,⟨rfl,rfl,_,rfl,rfl⟩,AK⟩,⟨rfl,rfl,AK⟩,rfl⟩ rfl (bM rfl T.cx (ao (qv 3) ac)) (λ _ _ _ _=>(au (i:=0) (by show BJ (["_law_column","_law_tape_here","_law_top"]:List Str); decide +kernel) rfl (Av rfl))) (λ _ _ _ _=>(av (aV T) (hr.mono (by decide)) rfl T.bL T.bB.kp T.bK aG (ao (qv 1) (ao (qv 2) ac))))) ac)))
   (ag (aA (i:=8) sc_rows.nd rfl (Av rfl) (av (aV T) (hr.mono (by decide)) rfl T.bL T.bB.kp T.bK aG (ao (qv 0) (ao ai ac))))
   (ag (cq (QW.qt (kz (az (gr (K:=K) hr.units0) (qv 5) (aT ac) (aE _)) (iz (az pY (qv 8) ai (aE _))))) (ag (aA (i:=9) sc_rows.nd rfl (Av rfl) (cn (cB (K:=K)) (qv 5) (av (aV T) (hr.mono (by decide)) rfl T.bL T.bB.kp T.bK aG (ao (qv 0) (ao (ax (bI (K:=K)) (by rfl) T.cP bJ (ao (qv 5) ac)) ac)))))
   (ag (aA (i:=10) sc_rows.nd rfl (Av rfl) (av (aV T) (hr.mono (by decide)) rfl T.bL T.bB.kp T.bK aG (ao (qv 0) (ao (aS eJ (qv 3) ai) ac))))
   (am (aA (i:=7) sc_rows.nd rfl (Av rfl) (cn (cB (K:=K)) (aT (ao (qv 9) (ao (aS tf (kC ra (qv 9) mZ (m3 (qv 10))) (kC ra (qv 7) (m3 (qv 10)) mZ)) ac))) (aS m5 (qv 8) ai)))))) bi)
   (am (bF (de (K:=K) (qv 5) (ao (qv 7) ac))))))))
   (am (aU (qv 5)))))))),?_⟩
  rw [show L2.bc ["_law_tape_here","_law_many_here","_law_base","_law_columns","_law_top","_law_found","_law_k","_law_row","_law_way","_law_other","_law_at"] [HU p,HR n,HR b]=[some (HU p),some (HR n),some (HR b),none,none,none,none,none,none,none,none] from rfl]
  nofun
  apply yi (α:=Nat) (S:=λ w H1=>w<=120/\St2 p H H1)
  case hA=>
   intro key
   refine ⟨p,7,rfl,hT,by decide,by decide,λ w0 H1 a1 S1=>?_⟩
   nofun
   refine ⟨p,8,rfl,S1.tape,by decide,by decide,λ r1 H2 b1 S2=>?_⟩
   have S12:=S1.trans S2
   nofun
   refine bC (λ h0=>?_) (λ h0=>?_)
   rotate_left
   ·nofun
    exact key w0 H2 ⟨by lia,S12⟩
   nofun
   refine ⟨aR (by simp),λ q hq=>?_⟩
   nofun
   refine ⟨p,5,rfl,(S12.new hq).tape,by decide,by decide,λ r2 H3 c1 S3=>?_⟩
   obtain ⟨u,e,hu⟩:=gi (xs:=[HR 20,HR 20,HR 20,HR 20,HR 120]) (r:=(r2:Int)) (by lia) (by simpa using c1)
   refine dI (HN (S3.keep q _ aa (S12.tape.ne hq))) e ?_
   have hu':∃ x:Nat,u=HR x/\x<=120:=by
    simp only [Al,Bd,or_false] at hu
    rcases hu with rfl | rfl | rfl | rfl | rfl
    ·exact ⟨20,rfl,by lia⟩
    ·exact ⟨20,rfl,by lia⟩
    ·exact ⟨20,rfl,by lia⟩
    ·exact ⟨20,rfl,by lia⟩
    ·exact ⟨120,rfl,by lia⟩
   obtain ⟨x,rfl,hx⟩:=hu'
   nofun
   exact key x H3 ⟨hx,(S12.new hq).trans S3⟩
  case hB=>
  rintro w H1 ⟨hw,S1⟩
  nofun
  refine ⟨aR (by simp),λ q hq=>?_⟩
  nofun
  refine ⟨p,2,rfl,(S1.new hq).tape,by decide,by decide,λ r2 H2 c1 S2=>?_⟩
  obtain ⟨u,e,hu⟩:=gi (xs:=[HR (b:Nat),HR 2]) (r:=(r2:Int)) (by lia) (by simpa using c1)
  refine dI (HN (S2.keep q _ aa (S1.tape.ne hq))) e ?_
  have hu':∃ x:Nat,u=HR x/\0<x/\x<=b:=by
   simp only [Al,Bd,or_false] at hu
   rcases hu with rfl | rfl
   ·exact ⟨b,rfl,by lia,Ai _⟩
   ·exact ⟨2,rfl,by lia,hb⟩
  obtain ⟨tp,rfl,htp,htp2⟩:=hu'
  clear hu e
  have S02:=(S1.new (o:=.lst [HR (b:Nat),HR 2]) hq).trans S2
  nofun
  refine ⟨aR (by simp),λ l hl=>?_⟩
  have n0:=S02.tape.ne hl
  have hl0:H l=none:=S02.free hl
  have S03:=S02.new (o:=.lst []) hl
  have tl3:(upd H2 l (.lst [])) l=some (.lst (([]:List Addr).map HU)):=aa
  generalize upd H2 l (.lst [])=H3 at S03 tl3
  clear S02 S1 S2
  nofun
  refine ⟨n,rfl,by lia,by lia,dc (n:=n) (λ i σ H'=>St2 p H H'/\(∃ (ps:List Addr) (rss:List (List Nat)),H' l=some (.lst (ps.map HU))/\RowsT H' ps rss/\Good rss w b/\ps.length=i)/\∃ v6 v7 v8 v9 v10,σ=[some (HU p),some (HR n),some (HR b),some (HR w),some (HR tp),some (HU l),v6,v7,v8,v9,v10]) ⟨S03,⟨[],[],tl3,⟨rfl,λ i p r h=>by simp at h⟩,(λ r h=>nomatch h),rfl⟩,_,_,_,_,_,rfl⟩ ?_ ?_⟩
  ·rintro i σ H4 hi ⟨S4,⟨ps,rss,tl4,hR,hG,hpl⟩,v6,v7,v8,v9,v10,rfl⟩
   have hrl:ps.length=rss.length:=hR.1
   nofun
   refine ⟨w,rfl,by lia,by lia,kE (n:=w) (λ i ys σ H5=>St2 p H4 H5/\(∃ cs:List Nat,ys=NV cs/\cs.length=i/\∀ x∈cs,x<b)/\∃ v,σ=[v,some (HU p),some (HR tp)]) (ay (by lia)) (λ i ys σ H5 h=>by obtain ⟨_,⟨cs,rfl,e,_⟩,_⟩:=h; rw [bP,e]) ⟨St2.refl S4.tape,⟨[],rfl,rfl,λ x h=>nomatch h⟩,none,rfl⟩ ?_ ?_⟩
   ·rintro i' ys σ H5 hi' ⟨S5,⟨cs,rfl,hcl,hcb⟩,v,rfl⟩
    nofun
    refine ⟨p,tp,rfl,S5.tape,by lia,by lia,λ r H6 c1 S6=>?_⟩
    refine Nx.mk hi' ⟨S5.trans S6,⟨cs++[r],gq _ _,by simp [hcl],λ y hy=>?_⟩,_,rfl⟩
    rcases AO.mp hy with h | h
    ·exact hcb y h
    ·rw [AJ.mp h]; lia
   rintro ys σ H5 ⟨S5,⟨cs,rfl,hcl,hcb⟩,v,rfl⟩ g1 hg1
   have S6:=S5.new (o:=.lst (NV cs)) hg1
   have tg1:(upd H5 g1 (.lst (NV cs))) g1=some (.lst (NV cs)):=aa
   generalize upd H5 g1 (.lst (NV cs))=H6 at S6 tg1
   nofun
   refine gh (HN tg1) λ g hg=>?_
   have S7:=S6.new (o:=.tup (NV cs)) hg
   have tg7:(upd H6 g (.tup (NV cs))) g=some (.tup (NV cs)):=aa
   generalize upd H6 g (.tup (NV cs))=H7 at S7 tg7
   nofun
   refine ⟨p,4,rfl,S7.tape,by decide,by decide,λ way H8 d1 S8=>?_⟩
   have gp:g≠p:=ue S7.tape tg7
   have S48:=S7.trans S8
   have S08:=S4.trans S48
   have tg8:=S8.keep _ _ tg7 gp
   have tl8:=S48.keep _ _ tl4 n0
   have R8:=hR.st2 S4.tape S48
   clear S5 S6 S7 S8 S48
   nofun
   refine ⟨aR (by simp),λ em hem=>?_⟩
   have S9:=S08.new (o:=.lst []) hem
   have s9:=(HV H8).new (o:=.lst []) hem
   have tem:(upd H8 em (.lst [])) em=some (.lst []):=aa
   generalize upd H8 em (.lst [])=H9 at S9 s9 tem
   have tl9:=s9 _ _ tl8
   have tg9:=s9 _ _ tg8
   have R9:=R8.same s9
   nofun
   refine ⟨l,em,ps.map HU,rfl,rfl,HN tl9,HN tem,?_⟩
   nofun
   by_cases hne:ps.map HU=[]
   ·rw [decide_eq_true hne]
    nofun
    refine ⟨cr tl9,?_⟩
    nofun
    refine bN tl9 (by rw [Af,hpl]; exact ay (by lia)) ?_
    exact ⟨(S9).own hl0 n0,⟨ps++[g],rss++[cs],by rw [aa,AN]; rfl,(RowsT.snoc R9 tg9).own tl9,hG.snoc hcl hcb,by simp [hpl]⟩,_,_,_,_,_,rfl⟩
   rw [decide_eq_false hne]
   have hp0:0<ps.length:=by
    rcases Bz ps.length with z | z
    ·exact absurd (by rw [Bm.mp z]; rfl) hne
    ·exact z
   nofun
   refine bC (λ hway=>?_) (λ hway=>?_)
   rotate_left
   ·skip
    nofun
    refine ⟨cr tl9,?_⟩
    nofun
    refine bN tl9 (by rw [Af,hpl]; exact ay (by lia)) ?_
    exact ⟨(S9).own hl0 n0,⟨ps++[g],rss++[cs],by rw [aa,AN]; rfl,(RowsT.snoc R9 tg9).own tl9,hG.snoc hcl hcb,by simp [hpl]⟩,_,_,_,_,_,rfl⟩
   nofun
   refine bt (HN tl9) ?_
   rw [Af]
   nofun
   refine ⟨p,_,rfl,S9.tape,by lia,by lia,λ j HA e1 SA=>?_⟩
   have hj:j<ps.length:=by lia
   have S0A:=S9.trans SA
   have tlA:=SA.keep _ _ tl9 n0
   have RA:=R9.st2 S9.tape SA
   have tgA:=SA.keep _ _ tg9 gp
   obtain ⟨q,hq⟩:∃ q,ps[j]? = some q:=⟨ps[j],by simp [hj]⟩
   have hjr:j<rss.length:=by lia
   have er:rss[j]? = some rss[j]:=by simp [hjr]
   have hrm:=hG _ (AU hjr)
   generalize rss[j]=row at er hrm
   have tqA:=RA.2 j q row hq er
   have qp:q≠p:=ue S0A.tape tqA
   refine dI (HN tlA) (v:=HU q) (bE (by rw [Ak,hq]; rfl)) ?_
   nofun
   refine ⟨p,_,rfl,S0A.tape,by lia,by lia,λ at0 HB f1 SB=>?_⟩
   have hat:at0<=w:=by lia
   have S0B:=S0A.trans SB
   have tlB:=SB.keep _ _ tlA n0
   have RB:=RA.st2 S0A.tape SB
   have tgB:=SB.keep _ _ tgA gp
   have tqB:=SB.keep _ _ tqA qp
   nofun
   refine ⟨_,rfl,?_⟩
   refine oA tqB λ x1 HC sC tx1=>?_
   rw [nk _ _ (by lia)] at tx1
   nofun
   refine ⟨_,rfl,?_⟩
   nofun
   refine oA (sC _ _ tgB) λ x2 HD sD tx2=>?_
   rw [nr _ _ (by lia)] at tx2
   nofun
   refine ⟨x1,x2,_,_,rfl,rfl,sD _ _ tx1,tx2,BY (By (by rw [bP,bP,A8,Bc]; lia) (by decide:240<sizeLine)),λ x3 HE sE tx3=>?_⟩
   rw [vN] at tx3
   nofun
   refine ⟨aR (by simp),λ z hz=>?_⟩
   have sF:=(HV HE).new (o:=.lst [HU q,HU x3]) hz
   have tz:(upd HE z (.lst [HU q,HU x3])) z=some (.lst [HU q,HU x3]):=aa
   generalize upd HE z (.lst [HU q,HU x3])=HF at sF tz
   have sBF:=((sC.trans sD).trans sE).trans sF
   have S0F:St2 p H HF:=⟨λ c u e1 e2=>sBF _ _ (S0B.keep c u e1 e2),S0B.tape.same sBF⟩
   have tlF:=sBF _ _ tlB
   have RF:=RB.same sBF
   nofun
   obtain ⟨u,e,hu⟩:=gi (xs:=[HU q,HU x3]) (r:=(way:Int) - 2) (by lia) (by simp only [Az,A9]; lia)
   refine dI (HN tz) e ?_
   have hu':∃ (y:Addr) (r:List Nat),u=HU y/\HF y=some (.tup (NV r))/\r.length=w/\∀ x∈r,x<b:=by
    simp only [Al,Bd,or_false] at hu
    rcases hu with rfl | rfl
    ·exact ⟨q,row,rfl,sBF _ _ tqB,hrm.1,hrm.2⟩
    ·refine ⟨x3,_,rfl,sF _ _ tx3,by rw [Ay,A8,Bc]; lia,λ x hx=>?_⟩
     rcases AO.mp hx with h | h
     ·exact hrm.2 x (CM h)
     ·exact hcb x (Ck h)
   obtain ⟨y,r,rfl,ty,hyl,hyb⟩:=hu'
   nofun
   refine ⟨cr tlF,?_⟩
   nofun
   refine bN tlF (by rw [Af,hpl]; exact ay (by lia)) ?_
   exact ⟨(S0F).own hl0 n0,⟨ps++[y],rss++[r],by rw [aa,AN]; rfl,(RowsT.snoc RF ty).own tlF,hG.snoc hyl hyb,by simp [hpl]⟩,_,_,_,_,_,rfl⟩
  ·rintro σ H4 ⟨S4,⟨ps,rss,tl4,hR,hG,hpl⟩,v6,v7,v8,v9,v10,rfl⟩
   nofun
   exact k l ps rss w H4 hl0 tl4 hR (by rw [<-hR.1]; exact hpl) hG hw n0 S4
theorem jD {K:Ae} {H:Hp} {Q:VK} {w b:Nat} (tl:H l=some (.lst (ps.map HU))) (hR:RowsT H ps rss) (hG:Good rss w b) (hn:rss.length<=200)
  (k:∀ (d:Addr) (gs:List Addr) (grs:List (List Nat)),H d=none->RowsT H gs grs->grs.length=rss.length->Good grs w b->gY grs->Q (.ref d) (upd H d (.lst (gs.map HU)))):nI K [.ref l] H Q:=by
 have hpl:ps.length=rss.length:=hR.1
 have hw:∀ r∈rss,r.length=w:=λ r hr=>(hG r hr).1
 refine ⟨l,ps,rss.map bf,rfl,HN tl,by rw [Af]; exact hpl,by lia,λ i a r e1 e2=>?_,?_,λ d o hd hP hS=>?_⟩
 ·rw [Ak] at e2
  obtain ⟨r',er,rfl⟩:=Be.mp e2
  rw [<-cS]
  exact HQ (hR.2 i a r' e1 er)
 ·rcases Bz w with h0 | h0
  ·refine .inl λ r hr=>?_
   obtain ⟨r',hr',rfl⟩:=Ct.mp hr
   have:=hw r' hr'
   rw [h0] at this
   rw [Bm.mp this]; rfl
  ·refine .inr λ r hr z=>?_
   obtain ⟨r',hr',rfl⟩:=Ct.mp hr
   have:=hw r' hr'
   have e:(bf r').length=0:=by rw [z]; rfl
   unfold bf at e
   rw [Af] at e
   lia
 have hol:o.length=rss.length:=by have:=hP.length_eq; rw [Cd] at this; lia
 have hob:∀ i∈o,i<rss.length:=λ i hi=>by rw [<-hpl]; exact BD.mp (hP.mem_iff.mp hi)
 have e0:(o.map λ i=>HU (ps.getD i 0))=(o.map λ i=>ps.getD i 0).map HU:=by rw [D9]; rfl
 rw [e0]
 refine k d (o.map λ i=>ps.getD i 0) (o.map λ i=>rss.getD i []) hd ⟨by rw [Af,Af],λ i q r a c=>?_⟩ (by rw [Af,hol]) (λ r hr=>?_) ?_
 ·rw [Ak] at a c
  obtain ⟨j,ej,rfl⟩:=Be.mp a
  obtain ⟨j',ej',rfl⟩:=Be.mp c
  rw [ej] at ej'; cases ej'
  have hj:=hob j (Ax ej)
  refine hR.2 j _ _ ?_ ?_
  ·rw [Ag,Ac (show j<ps.length by lia)]; rfl
  ·rw [Ag,Ac hj]; rfl
 ·obtain ⟨i,hi,rfl⟩:=Ct.mp hr
  have hil:=hob i hi
  rw [Ag,Ac hil]
  exact hG _ (AU hil)
 ·unfold gY
  rw [Fw]
  refine hS.imp λ {i j} hij=>?_
  have e:∀ i,(rss.map bf).getD i []=bf (rss.getD i []):=λ i=>by
   rw [Ag,Ag,Ak]
   cases rss[i]?<;>rfl
  have h1:=hij.1
  dsimp only at h1
  rw [e,e] at h1
  exact h1
noncomputable def tot (L:List (List (List Nat))):Nat:=(L.map DC).sum
theorem iS {p:Addr} {H H2:Hp} (a:St2 p H H1) (s:Same H1 H2):St2 p H H2:=⟨λ b o e n=>s _ _ (a.keep b o e n),by obtain ⟨x,y,ht,z⟩:=a.tape; exact ⟨x,y,s _ _ ht,z⟩⟩
noncomputable def wu (L:List (List (List Nat))) (w:Nat):Prop:=∀ r∈L,gY r/\Good r w 10
theorem uo {H:Hp} {xs:List Addr} {xss:List (List Addr)} {L:List (List (List Nat))} {r:Nat} {row:List Nat} (h:LsN H xs xss L) (hd:xs.Nodup) (hr:r<xs.length) (hps:xss[r]? = some ps) (hL:L[r]? = some rss) (hq:H q=some (.tup (NV row))):LsN (upd H xs[r] (.lst ((ps++[q]).map HU))) xs (xss.set r (ps++[q])) (L.set r (rss++[row])):=by
 obtain ⟨t0,R0⟩:=h r _ ps rss (Ac hr) hps hL
 intro j l ps' rss' a b c
 by_cases e:j=r
 ·subst e
  rw [Ac hr] at a
  rw [BE (aY hps)] at b
  rw [BE (aY hL)] at c
  cases a; cases b; cases c
  exact ⟨aa,(RowsT.snoc R0 hq).own t0⟩
 ·rw [BZ (AV e)] at b c
  obtain ⟨u,v⟩:=h j l ps' rss' a b c
  have hj:=aY a
  have n:l≠xs[r]:=λ z=>by
   rw [Ac hj] at a
   cases a
   exact e ((D1 hd).mp z)
  exact ⟨by rw [aj n]; exact u,v.own t0⟩
theorem uq {L:List (List (List Nat))} {r:Nat} (h:L[r]? = some rss) (row:List Nat):tot (L.set r (rss++[row]))=tot L+1:=by
 unfold tot
 induction L generalizing r with
 | nil=>cases h
 | cons x L ih=>
  cases r with
  | zero=>
   cases h
   simp; lia
  | succ r=>
   have:=ih h
   rw [Fc,Bo,Df,Bo,Df,this]; lia
theorem iT {α:Type} {L:List α} {r:Nat} {y z:α} (h:z∈L.set r y):z∈L\/z=y:=List.mem_or_eq_of_mem_set h
theorem jE {L:List (List (List Nat))} {r:List (List Nat)} (h:r∈L):r.length<=tot L:=by
 unfold tot
 induction L with
 | nil=>cases h
 | cons x L ih=>
  rw [Bo,Df]
  rcases Al.mp h with rfl | h
  ·lia
  ·have:=ih h; lia
theorem iU (L:List (List (List Nat))) (r:List (List Nat)):tot (L++[r])=tot L+r.length:=by unfold tot; simp
noncomputable def ur:Sp:=λ vs H Q _=>∃ (p:Addr) (n:Nat),vs=[.ref p,.int n]/\Tp2 H p/\n<=200/\∀ (a:Addr) (ls:List Addr) (pss:List (List Addr)) (L:List (List (List Nat))) (w:Nat) H',H a=none->H' a=some (.lst (ls.map HU))->ls.length=L.length->pss.length=L.length->LsN H' ls pss L->wu L w->w<=120->L.length<=12->tot L<=200->St2 p H H'->Q (.ref a) H'
theorem fK (T:Tx K mg t):FnOk P w K mg base CX0 3 t.cO t.cN ["_law_tape_here","_law_many_here"] ur:=by
 refine T.ee.okQ sc_lists_of_rows (λ vs H Q E h=>?_) (λ cdv A outer s H vs Q E hr h=>?_)
 ·obtain ⟨p,n,rfl,_⟩:=h
  rfl
 ·obtain ⟨p,n,rfl,hT,hn,k⟩:=h
  refine ⟨_,(ag (aA (i:=2) sc_lists_of_rows.nd rfl (Av rfl) (av (ul T) (hr.mono (by decide)) rfl T.wC T.rz.kp T.wz aG (ao (qv 0) (ao (qv 1) (ao ai ac)))))
   (ag (m8 (i:=3) (N:=["_law_k"]) (tgs:=["_law_k"]) (frs:=[]) (ix:=[])  sc_lists_of_rows.nd rfl (Av rfl) ⟨rfl,by decide +kernel,rfl,by decide +kernel,rfl,rfl,AK,AK,rfl⟩ rfl (bM rfl T.cx (ao (cn (cB (K:=K)) (aT (ao (av (aV T) (hr.mono (by decide)) rfl T.bL T.bB.kp T.bK aG (ao (qv 0) (ao ai ac))) (ao (aS eJ ai (av (aV T) (hr.mono (by decide)) rfl T.bL T.bB.kp T.bK aG (ao (qv 0) (ao ai ac)))) ac))) (aD m7 (by rfl) T.me oq (ao (jT uF (av (aV T) (hr.mono (by decide)) rfl T.bL T.bB.kp T.bK aG (ao (qv 0) (ao ai ac))) ai (aE _)) ac))) ac)) (λ _ _ _ _=>(au (i:=0) (by show BJ (["_law_k"]:List Str); decide +kernel) rfl (Av rfl))) (λ _ _ _ _=>(aT ac)))
   (ag (cy A2 rfl (c4 (K:=K) (qv 2)) (au (i:=4) sc_lists_of_rows.nd rfl (Av rfl)) (am (cq (az (gr (K:=K) hr.units0) (qv 3) (aT ac) (aE _)) (am (bF (de (K:=K) (cn (cB (K:=K)) (qv 3) (av (aV T) (hr.mono (by decide)) rfl T.bL T.bB.kp T.bK aG (ao (qv 0) (ao (ax (bI (K:=K)) (by rfl) T.cP bJ (ao (qv 3) ac)) ac)))) (ao (qv 4) ac)))) bi)))
   (am (aU (cH (N:=["_law_some"]) (tgs:=["_law_some"]) (frs:=[]) (ix:=[]) ⟨rfl,by decide +kernel,rfl,by decide +kernel,rfl,rfl,AK,AK,rfl⟩ rfl (c4 (K:=K) (qv 3)) (λ _ _ _ _=>(au (i:=0) (by show BJ (["_law_some"]:List Str); decide +kernel) rfl (Av rfl))) (λ _ _ _ _=>(ax (qf (K:=K) hr.units) (by rfl) T.fi jA (ao (qv 0) ac))))))))),?_⟩
  rw [show L2.bc ["_law_tape_here","_law_many_here","_law_rows_here","_law_lists","_law_row"] [HU p,HR n]=[some (HU p),some (HR n),none,none,none] from rfl]
  nofun
  refine ⟨p,n,10,rfl,hT,hn,by decide,by decide,λ rl rps rss w H1 hrl0 trl hR hrn hG hw hrp S1=>?_⟩
  nofun
  refine ⟨p,5,rfl,S1.tape,by decide,by decide,λ r1 H2 c1 S2=>?_⟩
  nofun
  refine ⟨p,6,rfl,S2.tape,by decide,by decide,λ r2 H3 c2 S3=>?_⟩
  nofun
  refine ⟨aR (by simp),λ q hq=>?_⟩
  have S13:=(S1.trans S2).trans S3
  have trl3:=S3.keep _ _ (S2.keep _ _ trl hrp) hrp
  have R3:=(hR.st2 S1.tape S2).st2 S2.tape S3
  have nq:=S13.tape.ne hq
  have s4:=(HV H3).new (o:=.lst [HR (r1:Int),HR (7+(r2:Int))]) hq
  have S4:=S13.new (o:=.lst [HR (r1:Int),HR (7+(r2:Int))]) hq
  have tq:(upd H3 q (.lst [HR (r1:Int),HR (7+(r2:Int))])) q=some (.lst [HR (r1:Int),HR (7+(r2:Int))]):=aa
  generalize upd H3 q (.lst [HR (r1:Int),HR (7+(r2:Int))])=H4 at S4 s4 tq
  nofun
  refine ⟨p,8,rfl,S4.tape,by decide,by decide,λ r3 H5 c3 S5=>?_⟩
  nofun
  obtain ⟨v,e,hv⟩:=gi (xs:=[HR (r1:Int),HR (7+(r2:Int))]) (r:=if decide (HR (r3:Int)=HR 0)=true then 1 else 0) (by split<;>lia) (by simp only [Az,A9]; split<;>lia)
  refine dI (HN (S5.keep q _ tq nq)) e ?_
  have hv':∃ m:Nat,v=HR m/\m<=12:=by
   simp only [Al,Bd,or_false] at hv
   rcases hv with rfl | rfl
   ·exact ⟨r1,rfl,by lia⟩
   ·exact ⟨7+r2,by congr 1,by lia⟩
  obtain ⟨m,rfl,hm⟩:=hv'
  have S05:=S4.trans S5
  have trl5:=S5.keep _ _ (s4 _ _ trl3) hrp
  have R5:=(R3.same s4).st2 S4.tape S5
  nofun
  refine ⟨m,rfl,by lia,by lia,kE (n:=m) (λ i ys σ H'=>Same H5 H'/\(∃ xs:List Addr,ys=xs.map HU/\xs.length=i/\xs.Nodup/\(∀ x∈xs,H5 x=none/\H' x=some (.lst [])))/\∃ v,σ=[v]) (ay (by lia)) (λ i ys σ H' h=>by obtain ⟨_,⟨xs,rfl,e,_⟩,_⟩:=h; rw [Af,e]) ⟨HV _,⟨[],rfl,rfl,Gm,λ x h=>nomatch h⟩,none,rfl⟩ ?_ ?_⟩
  ·rintro i ys σ H6 hi ⟨s6,⟨xs,rfl,hxl,hxd,hxn⟩,v,rfl⟩
   nofun
   refine ⟨aR (by simp),λ c hc=>?_⟩
   have s7:=(HV H6).new (o:=.lst []) hc
   refine Nx.mk hi ⟨s6.new hc,⟨xs++[c],by rw [AN]; rfl,by simp [hxl],?_,λ x hx=>?_⟩,_,rfl⟩
   ·refine Fx.mpr ⟨hxd,C6 _ _,λ a ha b hb e=>?_⟩
    rw [e,AJ.mp hb] at ha
    rw [(hxn c ha).2] at hc; cases hc
   ·rcases AO.mp hx with g | g
    ·exact ⟨(hxn x g).1,s7 _ _ (hxn x g).2⟩
    ·rw [AJ.mp g]; exact ⟨s6.free hc,aa⟩
  rintro ys σ H6 ⟨s6,⟨xs,rfl,hxl,hxd,hxn⟩,v,rfl⟩ la hla
  have S7:=(iS S05 s6).new (o:=.lst (xs.map HU)) hla
  have s67:=(HV H6).new (o:=.lst (xs.map HU)) hla
  have s57:=s6.trans s67
  have tla:(upd H6 la (.lst (xs.map HU))) la=some (.lst (xs.map HU)):=aa
  have hxla:∀ x∈xs,x≠la:=λ x hx e=>by rw [<-e,(hxn x hx).2] at hla; cases hla
  have hla5:H5 la=none:=s6.free hla
  generalize upd H6 la (.lst (xs.map HU))=H7 at S7 s67 s57 tla
  have hxf:∀ x∈xs,H x=none:=λ x hx=>S05.free (hxn x hx).1
  have hxp:∀ x∈xs,x≠p:=λ x hx=>S05.tape.ne (hxn x hx).1
  have lap:la≠p:=S05.tape.ne hla5
  have hxr:∀ x∈xs,x≠rl:=λ x hx e=>by have z:=(hxn x hx).1; rw [e,trl5] at z; cases z
  have trl7:=s57 _ _ trl5
  have R7:=R5.same s57
  have hpl:rps.length=rss.length:=hR.1
  have X7:LsN H7 xs (Ap m []) (Ap m []):=λ j l ps rs a b c=>by
   have hj:=aY a
   have eb:=Ax b
   have ec:=Ax c
   rw [(DJ.mp eb).2,(DJ.mp ec).2]
   exact ⟨s67 _ _ (hxn l (Ax a)).2,rfl,λ i p r h=>by simp at h⟩
  have hla0:H la=none:=S05.free hla5
  nofun
  refine ⟨rl,rfl,⟨_,HN trl7⟩,pC (a:=rl) (xs:=rps.map HU) (λ i σ H'=>St2 p H H'/\H' la=some (.lst (xs.map HU))/\H' rl=some (.lst (rps.map HU))/\RowsT H' rps rss/\(∃ (xss:List (List Addr)) (L:List (List (List Nat))),LsN H' xs xss L/\xss.length=m/\L.length=m/\(∀ r∈L,Good r w 10)/\tot L<=i)/\∃ v4,σ=[some (HU p),some (HR n),some (HU rl),some (HU la),v4]) ⟨S7,tla,trl7,R7,⟨_,_,X7,by simp,by simp,(λ r hr=>by rw [(DJ.mp hr).2]; exact λ _ h=>nomatch h),(by unfold tot; simp)⟩,_,rfl⟩ (λ i σ H' _ h=>HN h.2.2.1) ?_ ?_⟩
  ·rintro i x σ H8 hx ⟨S8,tla8,trl8,R8,⟨xss,L,X8,hxs8,hL8,hG8,ht8⟩,v4,rfl⟩
   obtain ⟨q,rfl,eq,_,hi'⟩:=bO hx
   have hir:i<rss.length:=by lia
   have er:rss[i]? = some rss[i]:=Ac hir
   have hrm:=hG _ (AU hir)
   generalize rss[i]=row at er hrm
   have tq8:=R8.2 i q row eq er
   nofun
   refine ⟨aR (by simp),λ em hem=>?_⟩
   have S9:=S8.new (o:=.lst []) hem
   have s9:=(HV H8).new (o:=.lst []) hem
   have tem:(upd H8 em (.lst [])) em=some (.lst []):=aa
   generalize upd H8 em (.lst [])=H9 at S9 s9 tem
   nofun
   refine ⟨la,em,xs.map HU,rfl,rfl,HN (s9 _ _ tla8),HN tem,?_⟩
   nofun
   by_cases hne:xs.map HU=[]
   ·rw [decide_eq_true hne]
    nofun
    exact ⟨S9,s9 _ _ tla8,s9 _ _ trl8,R8.same s9,⟨xss,L,bD X8 s9,hxs8,hL8,hG8,by lia⟩,_,rfl⟩
   rw [decide_eq_false hne]
   have hm0:0<xs.length:=by
    rcases Bz xs.length with z | z
    ·exact absurd (by rw [Bm.mp z]; rfl) hne
    ·exact z
   nofun
   refine bt (HN (s9 _ _ tla8)) ?_
   rw [Af]
   nofun
   refine ⟨p,_,rfl,S9.tape,by lia,by lia,λ r HA e1 SA=>?_⟩
   have hr:r<xs.length:=by lia
   have S0A:=S9.trans SA
   have tlaA:=SA.keep _ _ (s9 _ _ tla8) lap
   have trlA:=SA.keep _ _ (s9 _ _ trl8) hrp
   have RA:=(R8.same s9).st2 S9.tape SA
   have XA:LsN HA xs xss L:=λ j l ps rs a b c=>by
    obtain ⟨u,v⟩:=X8 j l ps rs a b c
    exact ⟨SA.keep _ _ (s9 _ _ u) (hxp l (Ax a)),(v.same s9).st2 S9.tape SA⟩
   have tqA:=SA.keep _ _ (s9 _ _ tq8) (ue S9.tape (s9 _ _ tq8))
   have eps:xss[r]? = some (xss[r]'(by lia)):=Ac _
   have eL:L[r]? = some (L[r]'(by lia)):=Ac _
   have hGr:=hG8 _ (Ax eL)
   have hlr:(L[r]'(by lia)).length<=200:=by have:=jE (Ax eL); lia
   obtain ⟨tr,RR⟩:=XA r _ _ _ (Ac hr) eps eL
   have hmr:xs[r]∈xs:=AU hr
   have hprl:=RR.1
   generalize xss[r]'(by lia)=ps at eps tr RR hprl
   generalize L[r]'(by lia)=rs at eL hGr hlr RR hprl
   refine dI (HN tlaA) (v:=HU xs[r]) (bE (by rw [Ak,Ac hr]; rfl)) ?_
   refine ⟨cr tr,?_⟩
   nofun
   refine bN tr (by rw [Af]; exact ay (by lia)) ?_
   rw [show ps.map HU++[HU q]=(ps++[q]).map HU by rw [AN]; rfl]
   refine ⟨S0A.own (hxf _ hmr) (hxp _ hmr),by rw [aj (AV (hxla _ hmr))]; exact tlaA,by rw [aj (AV (hxr _ hmr))]; exact trlA,RA.own tr,⟨xss.set r (ps++[q]),L.set r (rs++[row]),uo XA hxd hr eps eL tqA,by rw [Bj]; exact hxs8,by rw [Bj]; exact hL8,λ z hz=>?_,by rw [uq eL]; lia⟩,_,rfl⟩
   rcases iT hz with g | g
   ·exact hG8 z g
   ·rw [g]; exact hGr.snoc hrm.1 hrm.2
  ·rintro σ H8 ⟨S8,tla8,trl8,R8,⟨xss,L,X8,hxs8,hL8,hG8,ht8⟩,v4,rfl⟩
   rw [Af] at ht8
   nofun
   refine ⟨la,rfl,⟨_,HN tla8⟩,dl (a:=la) (vs:=xs.map HU) (λ i ys σ H'=>Same H8 H'/\(∃ (zs:List Addr) (zss:List (List Addr)) (M:List (List (List Nat))),ys=zs.map HU/\zs.length=i/\zss.length=i/\M.length=i/\LsN H' zs zss M/\wu M w/\tot M=tot (L.take i))/\i<=xs.length/\∃ v,σ=[v]) (by rw [Af]; exact ay (by lia)) (λ i ys σ H' h=>by obtain ⟨_,⟨zs,zss,M,rfl,e,_⟩,_⟩:=h; rw [Af,e]) (λ i ys σ H' h=>HN (h.1 _ _ tla8)) ⟨HV _,⟨[],[],[],rfl,rfl,rfl,rfl,λ j l ps rs h=>by simp at h,(λ r h=>nomatch h),rfl⟩,AC _,none,rfl⟩ ?_ ?_⟩
   ·rintro i ys σ H9 x hx ⟨s9,⟨zs,zss,M,rfl,hzl,hzs,hM,XM,GM,tM⟩,hi,v,rfl⟩
    have hil:=aY hx
    obtain ⟨l,rfl,el,_,hi'⟩:=bO hx
    have eps:xss[i]? = some (xss[i]'(by lia)):=Ac _
    have eL:L[i]? = some (L[i]'(by lia)):=Ac _
    obtain ⟨tr,RR⟩:=X8 i _ _ _ el eps eL
    have hGr:=hG8 _ (Ax eL)
    have hlr:(L[i]'(by lia)).length<=200:=by have:=jE (Ax eL); lia
    have eT:tot (L.take (i+1))=tot (L.take i)+(L[i]'(by lia)).length:=by rw [Cf,eL]; exact iU _ _
    generalize L[i]'(by lia)=rs at eL hGr hlr RR eT
    nofun
    refine jD (s9 _ _ tr) (RR.same s9) hGr hlr λ d gs grs hd hGs hgl hgG hgR=>?_
    have sA:=(HV H9).new (o:=.lst (gs.map HU)) hd
    have td:(upd H9 d (.lst (gs.map HU))) d=some (.lst (gs.map HU)):=aa
    generalize upd H9 d (.lst (gs.map HU))=HA at sA td
    refine Nx.mk hil ⟨s9.trans sA,⟨zs++[d],zss++[gs],M++[grs],by rw [AN]; rfl,by simp [hzl],by simp [hzs],by simp [hM],?_,λ r hr=>?_,by rw [iU,tM,eT,hgl]⟩,by lia,_,rfl⟩
    ·refine fT (λ j l ps rs a b c=>?_) (by lia) (by rw [AQ (by lia),show zs.length - M.length=0 by lia]; rfl) td (hGs.same sA)
     have hj:=aY a
     rw [AX (by lia)] at c
     obtain ⟨u,v⟩:=XM j l ps rs a b c
     exact ⟨sA _ _ u,v.same sA⟩
    ·rcases AO.mp hr with g | g
     ·exact GM r g
     ·rw [AJ.mp g]; exact ⟨hgR,hgG⟩
   rintro ys σ H9 ⟨s9,⟨zs,zss,M,rfl,hzl,hzs,hM,XM,GM,tM⟩,hi,v,rfl⟩ a ha
   rw [Af] at hzl hzs hM tM
   have sA:=(HV H9).new (o:=.lst (zs.map HU)) ha
   rw [AR (by lia)] at tM
   have S9:=iS S8 s9
   exact k a zs zss M w _ (S9.free ha) aa (by lia) (by lia) (bD XM sA) GM hw (by lia) (by lia) (S9.new ha)
theorem oB {P:Nat->Addr->Prop}:∀ n,(∀ i,i<n->∃ q,P i q)->∃ qs:List Addr,qs.length=n/\∀ (i:Nat) q,qs[i]? = some q->P i q
 | 0,_=>⟨[],rfl,λ i q h=>by simp at h⟩
 | n+1,h=>by
  obtain ⟨qs,e,hq⟩:=oB n λ i hi=>h i (by lia)
  obtain ⟨q,hn⟩:=h n (by lia)
  refine ⟨qs++[q],by simp [e],λ i q' hi=>?_⟩
  rcases bY hi with ⟨l,a⟩ | ⟨l,a⟩
  ·exact hq i q' a
  ·rw [l,e,a]; exact hn
noncomputable def hkey (x:HP):List Int×List Int:=(bf x.1,[((x.2:Nat):Int)])
theorem HdsAt.perm {H:Hp} {hs:List HP} (h:HdsAt H hts hs) {p:List Nat} (hp:∀ i∈p,i<hs.length):HdsAt H (p.map λ i=>hts.getD i 0) (p.map λ i=>hs.getD i ([],0)):=by
 refine ⟨by rw [Af,Af],λ i a z e1 e2=>?_⟩
 rw [Ak] at e1 e2
 cases e:p[i]? with
 | none=>rw [e] at e1; cases e1
 | some j=>
  rw [e] at e1 e2
  cases e1; cases e2
  have hj:=hp j (Ax e)
  have hr:j<hts.length:=by rw [h.1]; exact hj
  refine h.2 j _ _ ?_ ?_
  ·dsimp only; rw [Ag,Ac hr]; rfl
  ·dsimp only; rw [Ag,Ac hj]; rfl
theorem oE {K:Ae} {H:Hp} {Q:VK} {hs:List HP} (tl:H l=some (.lst (hts.map HU))) (h:HdsAt H hts hs) (hn:hs.length<1000)
  (k:∀ (d:Addr) (ts:List Addr) (ds:List HP) H',H d=none->Same H H'->H' d=some (.lst (ts.map HU))->HdsAt H' ts ds->ds.Perm hs->iM ds->Q (.ref d) H'):nP K [.ref l] H Q:=by
 have hl:hts.length=hs.length:=h.1
 obtain ⟨qs,eq,hq⟩:=oB (P:=λ i q=>∀ t x,hts[i]? = some t->hs[i]? = some x->H t=some (.tup [.ref q,.int (x.2:Nat)])/\H q=some (.tup (NV x.1))) hs.length λ i hi=>by
  obtain ⟨q,e1,e2⟩:=h.2 i _ _ (Ac (show i<hts.length by lia)) (Ac hi)
  refine ⟨q,λ t x a b=>?_⟩
  rw [Ac (show i<hts.length by lia)] at a
  rw [Ac hi] at b
  cases a; cases b
  exact ⟨e1,e2⟩
 refine ⟨l,hts,qs,hs.map hkey,rfl,HN tl,by rw [Af]; exact hl,by rw [Af]; exact eq,by lia,λ i a q z e1 e2 e3=>?_,λ d p hd hp hs'=>?_⟩
 ·rw [Ak] at e3
  obtain ⟨x,ex,rfl⟩:=Be.mp e3
  obtain ⟨u,v⟩:=hq i q e2 a x e1 ex
  exact ⟨HQ u,by unfold hkey; dsimp only; rw [<-cS]; exact HQ v⟩
 ·rw [hl] at hp
  have hb:∀ i∈p,i<hs.length:=λ i hi=>BD.mp (hp.mem_iff.mp hi)
  have s:=(HV H).new (o:=.lst ((p.map λ i=>hts.getD i 0).map HU)) hd
  rw [show (p.map λ i=>HU (hts.getD i 0))=(p.map λ i=>hts.getD i 0).map HU by rw [D9]; rfl]
  refine k d (p.map λ i=>hts.getD i 0) (p.map λ i=>hs.getD i ([],0)) _ hd s aa ((h.perm hb).same s) (gX hs _ p hp) ?_
  unfold iM
  rw [Fw]
  refine hs'.imp_of_mem λ {a b} ha hb' r=>?_
  have e:∀ i,i<hs.length->(hs.map hkey).getD i ([],[])=hkey (hs.getD i ([],0)):=λ i hi=>by
   rw [Ag,Ak,Ag,Ac hi]; rfl
  have r1:=r.1
  dsimp only at r1
  rw [e a (hb a ha),e b (hb b hb')] at r1
  exact r1
noncomputable def DueAt (H:Hp) (ts:List Addr) (ds:List HP):Prop:=ts.length=ds.length/\∀ (i:Nat) t x,ts[i]? = some t->ds[i]? = some x->∃ r,H t=some (.tup [.int (x.2:Nat),.ref r])/\H r=some (.tup (NV x.1))
theorem DueAt.same {H:Hp} {ds:List HP} (h:DueAt H ts ds) (s:Same H H1):DueAt H1 ts ds:=⟨h.1,λ i t x a b=>by obtain ⟨q,e1,e2⟩:=h.2 i t x a b; exact ⟨q,s _ _ e1,s _ _ e2⟩⟩
theorem DueAt.snoc {H:Hp} {ds:List HP} {t r:Addr} {x:HP} (h:DueAt H ts ds) (e1:H t=some (.tup [.int (x.2:Nat),.ref r])) (e2:H r=some (.tup (NV x.1))):DueAt H (ts++[t]) (ds++[x]):=by
 refine ⟨by simp [h.1],λ i u y a b=>?_⟩
 rcases bY a with ⟨l,a⟩ | ⟨l,a⟩
 ·rcases bY b with ⟨_,b⟩ | ⟨l',b⟩
  ·exact h.2 i u y a b
  ·have:=h.1; lia
 ·rcases bY b with ⟨l',b⟩ | ⟨_,b⟩
  ·have:=h.1; lia
  ·rw [a,b]; exact ⟨r,e1,e2⟩
noncomputable def ff (L:List (List (List Nat))):List Nat:=Ap L.length 0
theorem l9 (L:List (List (List Nat))) (i:Nat):(ff L).getD i 0=0:=by
 unfold ff
 rw [Ag,C4]
 split<;>rfl
theorem gM (L:List (List (List Nat))) (i:Nat):l0 L (ff L) i=(L.getD i []).map λ r=>(r,i):=by
 unfold l0
 rw [l9,CH]
theorem fU (L:List (List (List Nat))):∀ n,n<=L.length->(fD L (ff L) n).length=tot (L.take n)
 | 0,_=>rfl
 | n+1,h=>by
  have e:L[n]? = some (L[n]'(by lia)):=Ac _
  rw [cL,Ay,fU L n (by lia),gM,Af,Cf,e]
  rw [show (some (L[n]'(by lia))).toList=[L[n]'(by lia)] from rfl,iU,Ag,e]
  rfl
theorem iV (L:List (List (List Nat))) (n:Nat):tot (L.take n)<=tot L:=by
 have e:L=L.take n++L.drop n:=(Bf n L).symm
 have:tot (L.take n++L.drop n)=tot (L.take n)+tot (L.drop n):=by unfold tot; rw [AN,List.sum_append]
 rw [<-e] at this
 lia
noncomputable def yB:Sp:=λ vs H Q _=>∃ (a:Addr) (ls:List Addr) (pss:List (List Addr)) (L:List (List (List Nat))),vs=[.ref a]/\H a=some (.lst (ls.map HU))/\ls.length=L.length/\pss.length=L.length/\LsN H ls pss L/\L.length<=12/\tot L<=200/\∀ (d:Addr) (ts:List Addr) (ds:List HP) H',H d=none->Same H H'->H' d=some (.lst (ts.map HU))->DueAt H' ts ds->iM ds->ds.Perm (fD L (ff L) L.length)->Q (.ref d) H'
theorem iW (T:Tx K mg t):FnOk P w K mg base CX0 1 t.eB t.eg ["_law_lists"] yB:=by
 refine T.fF.okQ sc_merged_due (λ vs H Q E h=>?_) (λ cdv A outer s H vs Q E hr h=>?_)
 ·obtain ⟨a,ls,pss,L,rfl,_⟩:=h
  rfl
 ·obtain ⟨a,ls,pss,L,rfl,ta,hll,hpl,X,hL,hT,k⟩:=h
  refine ⟨_,(ag (aA (i:=1) sc_merged_due.nd rfl (Av rfl) (aT ac))
   (ag (cy A2 rfl (dO (K:=K) rfl T.aM (ao (qv 0) ac)) (dN (K:=K) (n:=2) rfl (aC (au (i:=2) sc_merged_due.nd rfl (FS rfl)) (aC (au (i:=3) sc_merged_due.nd rfl (Av rfl)) cG))) (am (aA (i:=1) sc_merged_due.nd rfl (Av rfl) (aS yb (qv 1) (cH (N:=["_law_row","_law_number"]) (tgs:=["_law_row"]) (frs:=["_law_number"]) (ix:=[2]) ⟨rfl,by decide +kernel,rfl,by decide +kernel,rfl,rfl,⟨⟨rfl,rfl,_,rfl,rfl⟩,AK⟩,⟨rfl,AK⟩,rfl⟩ rfl (c4 (K:=K) (qv 3)) (λ _ _ _ _=>(au (i:=0) (by show BJ (["_law_row","_law_number"]:List Str); decide +kernel) rfl (Av rfl))) (λ _ _ _ _=>(cQ (ao (qv 0) (ao (qv 1) ac)))))))))
   (am (aU (cH (N:=["_law_row","_law_number"]) (tgs:=["_law_row","_law_number"]) (frs:=[]) (ix:=[]) ⟨rfl,by decide +kernel,rfl,by decide +kernel,rfl,rfl,AK,AK,rfl⟩ rfl (c4 (K:=K) (ax (qj (K:=K) hr.units) (by rfl) T.fi jA (ao (qv 1) ac))) (λ _ _ _ _=>(dN (K:=K) (n:=2) rfl (aC (au (i:=0) (by show BJ (["_law_row","_law_number"]:List Str); decide +kernel) rfl (Av rfl)) (aC (au (i:=1) (by show BJ (["_law_row","_law_number"]:List Str); decide +kernel) rfl (Av rfl)) cG)))) (λ _ _ _ _=>(cQ (ao (qv 1) (ao (qv 0) ac))))))))),?_⟩
  rw [show L2.bc ["_law_lists","_law_found","_law_number","_law_some"] [HU a]=[some (HU a),none,none,none] from rfl]
  nofun
  refine ⟨aR (by simp),λ u0 hu0=>?_⟩
  have s1:=(HV H).new (o:=.lst []) hu0
  have tu0:(upd H u0 (.lst [])) u0=some (.lst (([]:List Addr).map HU)):=aa
  generalize upd H u0 (.lst [])=H1 at s1 tu0
  nofun
  refine ⟨a,rfl,⟨_,HN (s1 _ _ ta)⟩,dP (n:=L.length) (λ i σ H'=>Same H H'/\i<=L.length/\∃ (u:Addr) (gts:List Addr),H' u=some (.lst (gts.map HU))/\HdsAt H' gts (fD L (ff L) i)/\∃ v2 v3,σ=[some (HU a),some (HU u),v2,v3]) ⟨s1,AC _,u0,[],tu0,⟨rfl,λ i t x h=>by simp at h⟩,_,_,rfl⟩ ?_ ?_ ?_ ?_⟩
  ·rintro i σ H2 hi ⟨s2,_⟩
   exact ⟨_,HU (ls[i]'(by lia)),HN (s2 _ _ ta),by rw [Ak,Ac (by lia)]; rfl⟩
  ·rintro σ H2 ⟨s2,_⟩
   exact ⟨_,HN (s2 _ _ ta),by rw [Af]; exact hll⟩
  ·rintro i x σ H2 H3 hi ⟨s2,hi',u,gts,tu,D,v2,v3,rfl⟩ ⟨q,x1,rfl,hq,rfl,hx1⟩
   have hx2:=hx1 _ (HN (s2 _ _ ta))
   rw [Ak,Ac (show i<ls.length by lia)] at hx2
   cases hx2
   obtain ⟨tl,R⟩:=X i (ls[i]'(by lia)) (pss[i]'(by lia)) L[i] (Ac _) (Ac _) (Ac hi)
   have eL:L.getD i []=L[i]:=by rw [Ag,Ac hi]; rfl
   have hlen:=fU L (i+1) (by lia)
   have htk:=iV L (i+1)
   have er:=cL L (ff L) i
   rw [gM,eL] at er
   have hlm:L[i].length<=tot L:=jE (AU hi)
   generalize ls[i]'(by lia)=l at tl
   generalize pss[i]'(by lia)=ps at tl R
   generalize L[i]=rss at R eL er hlm
   have hpr:ps.length=rss.length:=R.1
   refine bZ aa ?_
   dsimp only [Bw]
   have s23:=(HV H2).new (o:=.tup [HR (i:Nat),HU l]) hq
   have s3:=s2.trans s23
   generalize upd H2 q (.tup [HR (i:Nat),HU l])=H3 at s3 s23
   nofun
   refine ⟨l,rfl,⟨_,HN (s3 _ _ tl)⟩,dl (a:=l) (vs:=ps.map HU) (λ j ys σ H'=>Same H3 H'/\(∃ zs:List Addr,ys=zs.map HU/\zs.length=j/\HdsAt H' zs ((rss.take j).map λ r=>(r,i)))/\j<=ps.length/\∃ v,σ=[v,some (HR (i:Nat))]) (by rw [Af]; exact ay (by lia)) (λ j ys σ H' h=>by obtain ⟨_,⟨zs,rfl,e,_⟩,_⟩:=h; rw [Af,e]) (λ j ys σ H' h=>HN (h.1 _ _ (s3 _ _ tl))) ⟨HV _,⟨[],rfl,rfl,rfl,λ i p r h=>by simp at h⟩,AC _,none,rfl⟩ ?_ ?_⟩
   ·rintro j ys σ H4 x hx ⟨s4,⟨zs,rfl,hzl,hZ⟩,hj,v,rfl⟩
    have hjl:=aY hx
    obtain ⟨p,rfl,ep,_,hj'⟩:=bO hx
    have hjr:j<rss.length:=by lia
    have er':rss[j]? = some rss[j]:=Ac hjr
    have tp:=R.2 j p _ ep er'
    generalize rss[j]=row at er' tp
    nofun
    refine ⟨aR (by simp),λ z hz=>?_⟩
    have s5:=(HV H4).new (o:=.tup [HU p,HR (i:Nat)]) hz
    have tz:(upd H4 z (.tup [HU p,HR (i:Nat)])) z=some (.tup [HU p,HR (i:Nat)]):=aa
    generalize upd H4 z (.tup [HU p,HR (i:Nat)])=H5 at s5 tz
    refine Nx.mk hjl ⟨s4.trans s5,⟨zs++[z],by rw [AN]; rfl,by simp [hzl],?_⟩,by lia,_,rfl⟩
    rw [Cf,er',AN]
    exact (hZ.same s5).app (HdsAt.one (x:=(row,i)) tz (s5 _ _ (s4 _ _ (s3 _ _ tp))))
   rintro ys σ H4 ⟨s4,⟨zs,rfl,hzl,hZ⟩,hj,v,rfl⟩ c hc
   rw [Af] at hzl hZ
   rw [AR (by lia)] at hZ
   have s5:=(HV H4).new (o:=.lst (zs.map HU)) hc
   have tc:(upd H4 c (.lst (zs.map HU))) c=some (.lst (zs.map HU)):=aa
   generalize upd H4 c (.lst (zs.map HU))=H5 at s5 tc
   have s25:=s23.trans (s4.trans s5)
   have hgl:=D.1
   have hzl':=hZ.1
   have hl6:gts.length+zs.length<=200:=by
    rw [er,Ay] at hlen
    lia
   nofun
   refine ⟨u,c,_,_,rfl,rfl,s25 _ _ tu,tc,aR (by rw [Af,Af]; lia),λ u' hu'=>?_⟩
   rw [<-AN]
   have s6:=(HV H5).new (o:=.lst ((gts++zs).map HU)) hu'
   have tu':(upd H5 u' (.lst ((gts++zs).map HU))) u'=some (.lst ((gts++zs).map HU)):=aa
   generalize upd H5 u' (.lst ((gts++zs).map HU))=H6 at s6 tu'
   nofun
   refine ⟨s2.trans (s25.trans s6),hi,u',gts++zs,tu',?_,_,_,rfl⟩
   rw [er]
   exact (D.same (s25.trans s6)).app (hZ.same (s5.trans s6))
  ·rintro σ H2 ⟨s2,hi',u,gts,tu,D,v2,v3,rfl⟩
   have hlen:=fU L L.length (Ai _)
   have htk:=iV L L.length
   nofun
   refine oE tu D (by lia) λ d0 ts0 ds H3 hd0 s3 td0 D3 hP hR=>?_
   have hl3:ts0.length=ds.length:=D3.1
   have hdl:ds.length<=200:=by rw [hP.length_eq]; lia
   refine ⟨d0,rfl,⟨_,HN td0⟩,dl (a:=d0) (vs:=ts0.map HU) (λ j ys σ H'=>Same H3 H'/\(∃ zs:List Addr,ys=zs.map HU/\zs.length=j/\DueAt H' zs (ds.take j))/\j<=ts0.length/\∃ v w,σ=[v,w]) (by rw [Af]; exact ay (by lia)) (λ j ys σ H' h=>by obtain ⟨_,⟨zs,rfl,e,_⟩,_⟩:=h; rw [Af,e]) (λ j ys σ H' h=>HN (h.1 _ _ td0)) ⟨HV _,⟨[],rfl,rfl,rfl,λ i p r h=>by simp at h⟩,AC _,none,none,rfl⟩ ?_ ?_⟩
   ·rintro j ys σ H4 x hx ⟨s4,⟨zs,rfl,hzl,hZ⟩,hj,v,w,rfl⟩
    have hjl:=aY hx
    obtain ⟨t0,rfl,et,_,hj'⟩:=bO hx
    have hjr:j<ds.length:=by lia
    have ed:ds[j]? = some ds[j]:=Ac hjr
    obtain ⟨q,e1,e2⟩:=D3.2 j t0 _ et ed
    generalize ds[j]=y at ed e1 e2
    refine bZ (s4 _ _ e1) ?_
    dsimp only [Bw]
    nofun
    refine ⟨aR (by simp),λ z hz=>?_⟩
    have s5:=(HV H4).new (o:=.tup [HR (y.2:Nat),HU q]) hz
    have tz:(upd H4 z (.tup [HR (y.2:Nat),HU q])) z=some (.tup [HR (y.2:Nat),HU q]):=aa
    generalize upd H4 z (.tup [HR (y.2:Nat),HU q])=H5 at s5 tz
    refine Nx.mk hjl ⟨s4.trans s5,⟨zs++[z],by rw [AN]; rfl,by simp [hzl],?_⟩,by lia,_,_,rfl⟩
    rw [Cf,ed]
    exact (hZ.same s5).snoc tz (s5 _ _ (s4 _ _ e2))
   rintro ys σ H4 ⟨s4,⟨zs,rfl,hzl,hZ⟩,hj,v,w,rfl⟩ d hd
   rw [Af] at hzl hZ
   rw [AR (by lia)] at hZ
   have s5:=(HV H4).new (o:=.lst (zs.map HU)) hd
   have s24:=s2.trans (s3.trans s4)
   exact k d zs ds _ (s24.free hd) (s24.trans s5) aa (hZ.same s5) hR hP
theorem MgAt.spare {H:Hp} {m la ma ha:Addr} {pss:List (List Addr)} {L:List (List (List Nat))} {hs:List HP} {Z:Addr->Prop} (h:MgAt C H m la ma ha ls pss hts L ms hs) (k:∀ b o,H b=some o->(∀ xs,o=.lst xs->¬ Z b)->H1 b=some o) (z1:¬ Z la) (z2:¬ Z ma) (z3:¬ Z ha) (z4:∀ l∈ls,¬ Z l):MgAt C H1 m la ma ha ls pss hts L ms hs:=by
 obtain ⟨dx,e⟩:=h.ob
 refine ⟨⟨dx,k _ _ e λ xs z=>nomatch z⟩,k _ _ h.tl λ _ _=>z1,h.ln,h.pn,λ i l ps rss a b c=>?_,k _ _ h.tm λ _ _=>z2,k _ _ h.th λ _ _=>z3,⟨h.hh.1,λ i t x a b=>?_⟩,h.n1,h.n2,h.n3,h.n4⟩
 ·obtain ⟨x,y⟩:=h.lr i l ps rss a b c
  exact ⟨k _ _ x λ _ _=>z4 l (Ax a),y.1,λ j p r d e=>k _ _ (y.2 j p r d e) λ xs z=>nomatch z⟩
 ·obtain ⟨q,e1,e2⟩:=h.hh.2 i t x a b
  exact ⟨q,k _ _ e1 (λ xs z=>nomatch z),k _ _ e2 (λ xs z=>nomatch z)⟩
noncomputable def Sep (la ma ha:Addr) (ls:List Addr) (x y:Addr):Prop:=(la≠x/\la≠y)/\(ma≠x/\ma≠y)/\(ha≠x/\ha≠y)/\∀ l∈ls,l≠x/\l≠y
theorem MgAt.fresh {H:Hp} {m la ma ha:Addr} {pss:List (List Addr)} {L:List (List (List Nat))} {hs:List HP} {x:Addr} (h:MgAt C H m la ma ha ls pss hts L ms hs) (hx:H x=none):Sep la ma ha ls x x:=by
 have a:=ak h.tl hx
 have b:=ak h.tm hx
 have c:=ak h.th hx
 refine ⟨⟨a,a⟩,⟨b,b⟩,⟨c,c⟩,λ l hl=>?_⟩
 obtain ⟨j,hj,rfl⟩:=AS hl
 have h1:=h.ln
 have h2:=h.pn
 obtain ⟨u,_⟩:=h.lr j _ (pss[j]'(by lia)) (L[j]'(by lia)) (Ac hj) (Ac _) (Ac _)
 have d:=ak u hx
 exact ⟨d,d⟩
noncomputable def PrV (H:Hp) (ts:List Addr) (ds:List HP):Prop:=ts.length=ds.length/\∀ (i:Nat) t x,ts[i]? = some t->ds[i]? = some x->∃ r,H t=some (.tup [.int (x.2:Nat),.ref r])/\H r=some (.tup (NV x.1))
theorem PrV.tups {H:Hp} {ds:List HP} (h:PrV H ts ds) (k:∀ b xs,H b=some (.tup xs)->H1 b=some (.tup xs)):PrV H1 ts ds:=
 ⟨h.1,λ i t x a b=>by obtain ⟨r,e1,e2⟩:=h.2 i t x a b; exact ⟨r,k _ _ e1,k _ _ e2⟩⟩
theorem PrV.snoc {H:Hp} {ds:List HP} {t r:Addr} {x:HP} (h:PrV H ts ds) (e1:H t=some (.tup [.int (x.2:Nat),.ref r])) (e2:H r=some (.tup (NV x.1))):PrV H (ts++[t]) (ds++[x]):=by
 refine ⟨by simp [h.1],λ i t' x' a b=>?_⟩
 by_cases hi:i<ts.length
 ·rw [AX hi] at a
  rw [AX (by rw [<-h.1]; exact hi)] at b
  exact h.2 i t' x' a b
 ·have e:i=ts.length:=by
   have:=(AH.mp a).1
   simp at this; lia
  subst e
  rw [AQ (Ai _),Ds] at a
  rw [AQ (by rw [h.1]; exact Ai _),show ts.length - ds.length=0 by have:=h.1; lia] at b
  cases a; cases b
  exact ⟨r,e1,e2⟩
structure Mid (C:Addr) (H H':Hp) (m la ma ha r:Addr) (ls:List Addr) (pss:List (List Addr)) (L:List (List (List Nat))) (ds:List HP) (ts:List Addr) (dn:List HP) (o:Option HP) (rest:List HP) (v:V) (ms:List Nat) (hs:List HP) (hts:List Addr):Prop where
 sm:Same H H'
 tr:H' r=some (.lst (ts.map HU))
 pr:PrV H' ts dn
 al:ds=dn++(o.toList++rest)
 en:o=none->rest=[]
 pe:(fD L ms L.length).Perm rest
 mg:MgAt C H' m la ma ha ls pss hts L ms hs
 ok:MgOk L ms hs
 hv:HpV H' v o
 sp:Sep la ma ha ls r r
noncomputable def oF:Sp:=λ vs H Q _=>∃ (b:Bool) (a:Addr) (ls:List Addr) (pss:List (List Addr)) (L:List (List (List Nat))) (ds:List HP),vs=[.ref a]/\LsF b H a ls pss L/\L.length<=100/\(∀ r∈L,gY r/\r.length<=200)/\(fD L (Ap L.length 0) L.length).Perm ds/\iM ds/\ds.length<=900/\
 ∀ (r:Addr) (ts:List Addr) H',Same H H'->H r=none->H' r=some (.lst (ts.map HU))->PrV H' ts ds->Q (.ref r) H'
theorem rm {L:List (List (List Nat))} {hs hs':List HP} {o:Option HP} {rest:List HP} (hr:∀ r∈L,gY r) (ok:MgOk L ms hs) (n:NextOk L ms hs o ms' hs') (p:(fD L ms L.length).Perm rest) (ri:iM rest) :
  ∃ rest',rest=o.toList++rest'/\(o=none->rest'=[])/\(fD L ms' L.length).Perm rest':=by
 cases rest with
 | nil=>
  obtain ⟨rfl,rfl,rfl⟩:=qr ok hr n p
  exact ⟨[],rfl,λ _=>rfl,p⟩
 | cons x0 rest=>
  obtain ⟨rfl,p',_⟩:=qq ok hr n p ri
  exact ⟨rest,rfl,λ z=>(nomatch z),p'⟩
theorem c6 (T:Tx K mg t):FnOk P w K mg base CX0 6 t.bS t.bR ["lists"] oF:=by
 refine T.bQ.okQ sc_many_merged (λ vs H Q E h=>?_) (λ cdv A outer s H vs Q E hr h=>?_)
 ·obtain ⟨b,a,ls,pss,L,ds,rfl,_⟩:=h
  rfl
 ·obtain ⟨b,a,ls,pss,L,ds,rfl,F,hL,hR,hpe,hri,hds,k⟩:=h
  have hRis:∀ r∈L,gY r:=λ r hr=>(hR r hr).1
  refine ⟨_,(ag (aA (i:=1) sc_many_merged.nd rfl (Av rfl) (tU T.cv (dh T) (hr.mono (by decide)) rfl T.ja T.cw aG (ao (qv 0) ac)))
   (ag (aA (i:=2) sc_many_merged.nd rfl (Av rfl) (aT ac))
   (ag (aA (i:=3) sc_many_merged.nd rfl (Av rfl) (fR (qv 1) T.aF T.cU (cD T) (hr.mono (by decide)) T.cV aG ))
   (ag (iA A2 (az nR (qv 3) dG (aE _)) (ag (bF (de (K:=K) (qv 2) (ao (qv 3) ac)))
   (am (aA (i:=3) sc_many_merged.nd rfl (Av rfl) (fR (qv 1) T.aF T.cU (cD T) (hr.mono (by decide)) T.cV aG )))))
   (am (aU (qv 2))))))),?_⟩
  rw [show L2.bc ["lists","merge","told","pair"] [HU a]=[some (HU a),none,none,none] from rfl]
  nofun
  intro m dx hm hdx hne
  have sN:Same H (upd (upd H dx (.own m)) m (.ins t.af dx [])):=λ b u e=>by
   rw [aj (ak e hm),aj (ak e hdx)]; exact e
  refine ⟨b,m,dx,a,ls,pss,L,rfl,aa,cE F sN,hL,hR,λ la ma ha ls' pss' hts hs H1 n1 n2 n3 n4 W O kp=>⟨rfl,?_⟩⟩
  have s1:Same H H1:=λ b o e=>kp b o (sN _ _ e) (ak e hm)
  have f1:H ma=none:=by cases z:H ma with | none=>rfl | some o=>rw [sN _ _ z] at n2; cases n2
  have f2:H ha=none:=by cases z:H ha with | none=>rfl | some o=>rw [sN _ _ z] at n3; cases n3
  nofun
  refine ⟨by simp,λ r hr=>?_⟩
  dsimp only [Bw]
  have s2:=s1.new (o:=.lst []) hr
  have W2:=W.same ((HV H1).new (o:=.lst []) hr)
  have sp:Sep la ma ha ls' r r:=W.fresh hr
  have tr:(upd H1 r (.lst [])) r=some (.lst []):=aa
  generalize upd H1 r (.lst [])=H2 at s2 W2 tr
  obtain ⟨dx2,ob2⟩:=W2.ob
  nofun
  refine ⟨m,dx2,_,rfl,ob2,jC _ _ _ (by decide +kernel) (by decide +kernel) (by decide +kernel),?_⟩
  nofun
  refine ⟨m,la,ma,ha,ls',pss',hts,L,_,hs,rfl,W2,O,by lia,λ v o ms' hs' hts' H3 N3 W3 k3 hv=>?_⟩
  obtain ⟨rest,er,en,p3⟩:=rm hRis O N3 hpe hri
  have M0:Mid t.af H H3 m la ma ha r ls' pss' L ds [] [] o rest v ms' hs' hts':=
   ⟨λ b o e=>k3 b o (s2 _ _ e) (ak e f1) (ak e f2),k3 _ _ tr (AV sp.2.1.1) (AV sp.2.2.1.1),⟨rfl,λ i t x a _=>(nomatch a)⟩,er,en,p3,W3,N3.ok O,hv,sp⟩
  clear hv W3 k3 N3 p3 en er
  nofun
  refine ⟨λ n σ H'=>∃ ts dn o rest v ms hs hts,n=(o.toList++rest).length/\Mid t.af H H' m la ma ha r ls' pss' L ds ts dn o rest v ms hs hts/\σ=[some (HU a),some (HU m),some (HU r),some v],⟨_,[],[],o,rest,v,ms',hs',hts',rfl,M0,rfl⟩,?_⟩
  clear M0
  rintro n σ H' ⟨ts,dn,o,rest,v,ms,hs,hts,rfl,M,rfl⟩
  nofun
  cases o with
  | none=>
   have hv:v=.non:=M.hv
   subst hv
   rw [decide_eq_true (rfl:V.non=V.non)]
   nofun
   have e:=M.al
   rw [M.en rfl] at e
   have e:ds=dn:=by rw [e]; simp
   refine k r ts H' M.sm ?_ M.tr (by rw [e]; exact M.pr)
   cases z:H r with | none=>rfl | some o=>rw [s1 _ _ z] at hr; cases hr
  | some x=>
   obtain ⟨q,r',rfl,g1,g2⟩:=M.hv
   rw [decide_eq_false (show ¬ (HU q=V.non) from λ z=>nomatch z)]
   nofun
   refine ⟨_,λ _ _ z=>z,?_⟩
   nofun
   have hlen:ts.length<900:=by
    have e:=congrArg DC M.al
    have e1:=M.pr.1
    simp at e
    lia
   refine ⟨cr M.tr,?_⟩
   nofun
   refine bN M.tr (by rw [Af]; exact ay (by lia)) ?_
   have W4:MgAt t.af (upd H' r (.lst (ts.map HU++[HU q]))) m la ma ha ls' pss' hts L ms hs:=M.mg.spare (Z:=λ b=>b=r) (λ b o e hz=>by
    by_cases z:b=r
    ·rw [z,M.tr] at e; cases e; exact absurd z (hz _ rfl)
    ·rw [aj z]; exact e) sp.1.1 sp.2.1.1 sp.2.2.1.1 λ l hl=>(sp.2.2.2 l hl).1
   have tr4:(upd H' r (.lst (ts.map HU++[HU q]))) r=some (.lst ((ts++[q]).map HU)):=by rw [aa,AN]; rfl
   have kt:∀ b xs,H' b=some (.tup xs)->(upd H' r (.lst (ts.map HU++[HU q]))) b=some (.tup xs):=λ b xs e=>by
    rw [aj (λ z=>by rw [z,M.tr] at e; cases e)]; exact e
   have s4:Same H (upd H' r (.lst (ts.map HU++[HU q]))):=λ b o e=>by
    rw [aj (λ z=>by rw [z] at e; rw [s1 _ _ e] at hr; cases hr)]; exact M.sm _ _ e
   have pr4:=(M.pr.snoc g1 g2).tups kt
   generalize upd H' r (.lst (ts.map HU++[HU q]))=H4 at W4 tr4 kt s4 pr4
   obtain ⟨dx4,ob4⟩:=W4.ob
   nofun
   refine ⟨m,dx4,_,rfl,ob4,jC _ _ _ (by decide +kernel) (by decide +kernel) (by decide +kernel),?_⟩
   nofun
   refine ⟨m,la,ma,ha,ls',pss',hts,L,_,hs,rfl,W4,M.ok,by lia,λ v o ms5 hs5 hts5 H5 N5 W5 k5 hv=>?_⟩
   have ri5:iM rest:=by
    have z:=hri
    rw [M.al] at z
    exact (An.mp (An.mp z).2.1).2.1
   obtain ⟨rest5,er,en,p5⟩:=rm hRis M.ok N5 M.pe ri5
   nofun
   refine ⟨_,?_,ts++[q],dn++[x],o,rest5,v,ms5,hs5,hts5,rfl,⟨λ b o e=>k5 b o (s4 _ _ e) (ak e f1) (ak e f2),k5 _ _ tr4 (AV sp.2.1.1) (AV sp.2.2.1.1),pr4.tups (λ b xs e=>k5 _ _ e (λ z=>?_) (λ z=>?_)),?_,en,p5,W5,N5.ok M.ok,hv,sp⟩,rfl⟩
   ·rw [er]; simp
   ·rw [z,W4.tm] at e; cases e
   ·rw [z,W4.th] at e; cases e
   ·rw [M.al,er]; simp
noncomputable def LsT (H:Hp) (a:Addr) (ls:List Addr) (pss:List (List Addr)) (L:List (List (List Nat))):Prop:=
 H a=some (.lst (ls.map HU))/\ls.length=L.length/\pss.length=L.length/\∀ (i:Nat) l ps rss,ls[i]? = some l->pss[i]? = some ps->L[i]? = some rss->H l=some (.lst (ps.map HU))/\RowsT H ps rss
noncomputable def oG:Sp:=λ vs H Q _=>∃ (a:Addr) (ls:List Addr) (pss:List (List Addr)) (L:List (List (List Nat))),vs=[.ref a]/\LsT H a ls pss L/\L.length<=100/\(∀ r∈L,r.length<=200)/\
 (∀ H',Same H H'->(∀ i,i<L.length->¬ Dn (L.getD i []))->Q .non H')/\∀ H' (j:Nat),Same H H'->j<L.length->(∀ i,i<j->¬ Dn (L.getD i []))->Dn (L.getD j [])->Q (.int (j:Nat)) H'
theorem hV (T:Tx K mg t):FnOk P w K mg base CX0 1 t.dB t.dz ["_law_lists"] oG:=by
 refine T.fg.okQ sc_first_fault (λ vs H Q E h=>?_) (λ cdv A outer s H vs Q E hr h=>?_)
 ·obtain ⟨a,ls,pss,L,rfl,_⟩:=h
  rfl
 ·obtain ⟨a,ls,pss,L,rfl,F,hL,hR,kn,kj⟩:=h
  have hll:ls.length=L.length:=F.2.1
  have hpl:pss.length=L.length:=F.2.2.1
  have gd:∀ {i:Nat} (hi:i<L.length),L.getD i []=L[i]:=λ {i} hi=>by rw [Ag,Ac hi]; rfl
  have ta:=F.1
  refine ⟨_,(ag (cy A2 rfl (dO (K:=K) rfl T.aM (ao (qv 0) ac)) (dN (K:=K) (n:=2) rfl (aC (au (i:=1) sc_first_fault.nd rfl (Av rfl)) (aC (au (i:=2) sc_first_fault.nd rfl (Av rfl)) cG))) (am (cy A2 rfl (bM rfl T.cx (ao (aS m5 (ax (bI (K:=K)) (by rfl) T.cP bJ (ao (qv 2) ac)) ai) ac)) (au (i:=3) sc_first_fault.nd rfl (Av rfl)) (am (cq (az (ym (K:=K) hr.units0) (cn (cB (K:=K)) (qv 2) (aS eJ (qv 3) ai)) (cn (cB (K:=K)) (qv 2) (qv 3)) (aE _)) (am (aU (qv 1))) bi)))))
   (am (aU dG))),?_⟩
  rw [show L2.bc ["_law_lists","_law_number","_law_some","_law_k"] [HU a]=[some (HU a),none,none,none] from rfl]
  nofun
  refine ⟨a,rfl,⟨_,HN ta⟩,dP (n:=L.length) (λ i σ H'=>Same H H'/\(∀ j,j<i->¬ Dn (L.getD j []))/\∃ v w u,σ=[some (HU a),v,w,u]) ⟨HV _,(λ j z=>absurd z (B1 _)),none,none,none,rfl⟩ ?_ ?_ ?_ ?_⟩
  ·rintro i σ H2 hi ⟨s2,_⟩
   exact ⟨_,HU (ls[i]'(by lia)),HN (s2 _ _ ta),by rw [Ak,Ac (by lia)]; rfl⟩
  ·rintro σ H2 ⟨s2,_⟩
   exact ⟨_,HN (s2 _ _ ta),by rw [Af]; exact hll⟩
  ·rintro i x σ H2 H3 hi ⟨s2,hno,v,w,u0,rfl⟩ ⟨q,x1,rfl,hq,rfl,hx1⟩
   have hx2:=hx1 _ (HN (s2 _ _ ta))
   rw [Ak,Ac (show i<ls.length by lia)] at hx2
   cases hx2
   obtain ⟨u,v'⟩:=F.2.2.2 i _ (pss[i]'(by lia)) L[i] (Ac (by lia)) (Ac _) (Ac hi)
   have hr2:=hR _ (AU hi)
   refine bZ aa ?_
   dsimp only [Bw]
   have s3:=s2.new (o:=.tup [HR (i:Nat),HU (ls[i]'(by lia))]) hq
   generalize upd H2 q (.tup [HR (i:Nat),HU (ls[i]'(by lia))])=H3 at s3
   nofun
   refine bt (HN (s3 _ _ u)) ?_
   rw [Af]
   have hp1:(pss[i]'(by lia)).length=L[i].length:=v'.1
   rw [hp1]
   nofun
   refine ⟨_,rfl,by lia,by lia,dc (Pv:=λ n σ H'=>H3=H'/\(∀ m,m<n->brk L[i] (m+1)=false)/\∃ u,σ=[some (HU a),some (HR (i:Nat)),some (HU (ls[i]'(by lia))),u]) ⟨rfl,(λ m z=>absurd z (B1 _)),_,rfl⟩ ?_ ?_⟩
   ·rintro n σ H4 hn ⟨rfl,hb,u1,rfl⟩
    dsimp only [Bw]
    have hn1:n+1<L[i].length:=by lia
    have ex:(0:Int)+((n:Nat):Int)=((n:Nat):Int):=by lia
    rw [ex]
    have e1:L[i][n+1]? = some (L[i][n+1]):=Ac _
    have e0:L[i][n]? = some (L[i][n]'(by lia)):=Ac _
    have p1:(pss[i]'(by lia))[n+1]? = some ((pss[i]'(by lia))[n+1]'(by lia)):=Ac _
    have p0:(pss[i]'(by lia))[n]? = some ((pss[i]'(by lia))[n]'(by lia)):=Ac _
    have ek:((n:Nat):Int)+1=((n+1:Nat):Int):=by lia
    nofun
    rw [ek]
    refine dI (HN (s3 _ _ u)) (v:=HU ((pss[i]'(by lia))[n+1]'(by lia))) (bE (by rw [Ak,p1]; rfl)) ?_
    nofun
    refine dI (HN (s3 _ _ u)) (v:=HU ((pss[i]'(by lia))[n]'(by lia))) (bE (by rw [Ak,p0]; rfl)) ?_
    refine vT (ns:=bf _) (ms:=bf _) (HQ (by rw [<-cS]; exact s3 _ _ (v'.2 (n+1) _ _ p1 e1))) (HQ (by rw [<-cS]; exact s3 _ _ (v'.2 n _ _ p0 e0))) ?_
    have ev:HT.aQ (bf (L[i][n+1])) (bf (L[i][n]'(by lia)))=brk L[i] (n+1):=by
     unfold brk lxt
     rw [DH,eE e1,eE e0]
    rw [ev]
    cases hv:brk L[i] (n+1) with
    | true=>
     nofun
     exact kj _ i s3 hi hno (by rw [gd hi]; exact ⟨n+1,by lia,hn1,hv⟩)
    | false=>
     nofun
     refine ⟨rfl,λ m hm=>?_,_,rfl⟩
     by_cases z:m=n
     ·rw [z]; exact hv
     ·exact hb m (by lia)
   ·rintro σ H4 ⟨rfl,hb,u1,rfl⟩
    refine ⟨s3,λ j hj=>?_,_,_,_,rfl⟩
    by_cases z:j=i
    ·subst z
     rw [gd hi]
     rintro ⟨m,h0,hm,hv⟩
     have:=hb (m - 1) (by lia)
     rw [show m - 1+1=m by lia,hv] at this; cases this
    ·exact hno j (by lia)
  ·rintro σ H2 ⟨s2,hno,v,w,u,rfl⟩
   nofun
   exact kn _ s2 hno
theorem ut {a b c:List Nat} (h1:lxt b a=false) (h2:lxt c b=false):lxt c a=false:=by
 cases h:lxt c a with
 | false=>rfl
 | true=>
  rcases tD a b with z | z | z
  ·rw [nB h z] at h2; cases h2
  ·subst z; rw [h] at h2; cases h2
  ·rw [z] at h1; cases h1
theorem rn (h:¬ Dn rss):gY rss:=by
 have ad:∀ m,m+1<rss.length->lxt (rss.getD (m+1) []) (rss.getD m [])=false:=λ m hm=>by
  cases z:lxt (rss.getD (m+1) []) (rss.getD m []) with
  | false=>rfl
  | true=>exact absurd ⟨m+1,by lia,hm,z⟩ h
 have far:∀ k m,m+k<rss.length->lxt (rss.getD (m+k) []) (rss.getD m [])=false:=by
  intro k
  induction k with
  | zero=>exact λ m _=>lT _
  | succ k ih=>exact λ m hm=>ut (ih m (by lia)) (ad (m+k) (by lia))
 refine Bb.mpr λ i j hi hj hij=>?_
 have:=far (j - i) i (by lia)
 rw [show i+(j - i)=j by lia,Ag,Ac hj,Ag,Ac hi] at this
 exact this
theorem RowsT.rev {H:Hp} (h:RowsT H ps rss):RowsT H ps.reverse rss.reverse:=by
 refine ⟨by rw [CP,CP]; exact h.1,λ i p r a b=>?_⟩
 have hi:=aY a
 rw [CP] at hi
 rw [EI hi] at a
 rw [EI (by rw [<-h.1]; exact hi),<-h.1] at b
 exact h.2 _ p r a b
theorem RowsT.put {H:Hp} (h:RowsT H ps rss) (i:Nat) (e:H q=some (.tup (NV r))):RowsT H (ps.set i q) (rss.set i r):=by
 refine ⟨by rw [Bj,Bj]; exact h.1,λ j p z a b=>?_⟩
 rw [Fu] at a b
 split at a
 ·rename_i g
  rw [if_pos g] at b
  split at a
  ·split at b
   ·cases a; cases b; exact e
   ·cases b
  ·cases a
 ·rename_i g
  rw [if_neg g] at b
  exact h.2 j p z a b
theorem uu {H:Hp} {xs:List Addr} {xss:List (List Addr)} {L:List (List (List Nat))} {r:Nat} {ps':List Addr} {rss':List (List Nat)} (h:LsN H xs xss L) (hd:xs.Nodup) (hr:r<xs.length) (hps:xss[r]? = some ps) (hL:L[r]? = some rss) (hq:RowsT H ps' rss'):LsN (upd H xs[r] (.lst (ps'.map HU))) xs (xss.set r ps') (L.set r rss'):=by
 obtain ⟨t0,R0⟩:=h r _ ps rss (Ac hr) hps hL
 intro j l ps' rss' a b c
 by_cases e:j=r
 ·subst e
  rw [Ac hr] at a
  rw [BE (aY hps)] at b
  rw [BE (aY hL)] at c
  cases a; cases b; cases c
  exact ⟨aa,hq.own t0⟩
 ·rw [BZ (AV e)] at b c
  obtain ⟨u,v⟩:=h j l ps' rss' a b c
  have hj:=aY a
  have n:l≠xs[r]:=λ z=>by
   rw [Ac hj] at a
   cases a
   exact e ((D1 hd).mp z)
  exact ⟨by rw [aj n]; exact u,v.own t0⟩
theorem uv {L:List (List (List Nat))} {r:Nat} {rss':List (List Nat)} (h:L[r]? = some rss) (hl:rss'.length=rss.length):tot (L.set r rss')=tot L:=by
 unfold tot
 induction L generalizing r with
 | nil=>cases h
 | cons x L ih=>
  cases r with
  | zero=>
   cases h
   simp [hl]
  | succ r=>
   have:=ih h
   rw [Fc,Bo,Df,Bo,Df,this]
noncomputable def qA:Sp:=λ vs H Q _=>∃ (p a:Addr) (ls:List Addr) (pss:List (List Addr)) (L:List (List (List Nat))) (w:Nat),vs=[.ref p,.ref a]/\Tp2 H p/\a≠p/\(∀ l∈ls,l≠p)/\H a=some (.lst (ls.map HU))/\ls.length=L.length/\pss.length=L.length/\LsN H ls pss L/\(∀ r∈L,Good r w 10)/\L.length<=12/\tot L<=200/\
 ∀ (x:Addr) (ls':List Addr) (pss':List (List Addr)) (L':List (List (List Nat))) H',St2 p H H'->H' x=some (.lst (ls'.map HU))->ls'.length=L'.length->pss'.length=L'.length->LsN H' ls' pss' L'->(∀ r∈L',Good r w 10)->L'.length<=12->tot L'<=200->Q (.ref x) H'
theorem oH (T:Tx K mg t):FnOk P w K mg base CX0 2 t.i3 t.iZ ["_law_tape_here","_law_lists"] qA:=by
 refine T.ll.okQ sc_turned (λ vs H Q E h=>?_) (λ cdv A outer s H vs Q E hr h=>?_)
 ·obtain ⟨p,a,ls,pss,L,w,rfl,_⟩:=h
  rfl
 ·obtain ⟨p,a,ls,pss,L,w,rfl,hTp,hap,hlp,ta,hll,hpl,X,hG,hL,hT,k⟩:=h
  refine ⟨_,(ag (m8 (i:=2) (N:=["_law_some"]) (tgs:=["_law_some"]) (frs:=[]) (ix:=[])  sc_turned.nd rfl (Av rfl) ⟨rfl,by decide +kernel,rfl,by decide +kernel,rfl,rfl,AK,AK,rfl⟩ rfl (c4 (K:=K) (qv 1)) (λ _ _ _ _=>(au (i:=0) (by show BJ (["_law_some"]:List Str); decide +kernel) rfl (Av rfl))) (λ _ _ _ _=>(aD (sV (K:=K)) (by rfl) T.lu ub (ao (qv 0) ac))))
   (ag (cy A2 rfl (bM rfl T.cx (ao (aS eJ ai (av (aV T) (hr.mono (by decide)) rfl T.bL T.bB.kp T.bK aG (ao (qv 0) (ao ai ac)))) ac)) (au (i:=3) sc_turned.nd rfl (Av rfl)) (am (cq (az (gr (K:=K) hr.units0) (qv 2) (aT ac) (aE _)) (ag (aA (i:=4) sc_turned.nd rfl (Av rfl) (cn (cB (K:=K)) (qv 2) (av (aV T) (hr.mono (by decide)) rfl T.bL T.bB.kp T.bK aG (ao (qv 0) (ao (ax (bI (K:=K)) (by rfl) T.cP bJ (ao (qv 2) ac)) ac)))))
   (am (cq (az uF (av (aV T) (hr.mono (by decide)) rfl T.bL T.bB.kp T.bK aG (ao (qv 0) (ao ai ac))) ai (aE _)) (am (bF (lQ (K:=K) (qv 4)))) (am (cq (az pY (ax (bI (K:=K)) (by rfl) T.cP bJ (ao (qv 4) ac)) ai (aE _)) (ag (aA (i:=5) sc_turned.nd rfl (Av rfl) (av (aV T) (hr.mono (by decide)) rfl T.bL T.bB.kp T.bK aG (ao (qv 0) (ao (aS m5 (ax (bI (K:=K)) (by rfl) T.cP bJ (ao (qv 4) ac)) ai) ac))))
   (am (nb (cQ (ao (cn (cB (K:=K)) (qv 4) (aS eJ (qv 5) ai)) (ao (cn (cB (K:=K)) (qv 4) (qv 5)) ac))) (dN (K:=K) (n:=2) rfl (aC (qY (qv 4) (qv 5)) (aC (qY (qv 4) (aS eJ (qv 5) ai)) cG)))))) bi))))) bi)))
   (am (aU (qv 2))))),?_⟩
  rw [show L2.bc ["_law_tape_here","_law_lists","_law_found","_law_turn","_law_some","_law_at"] [HU p,HU a]=[some (HU p),some (HU a),none,none,none,none] from rfl]
  nofun
  refine ⟨a,rfl,⟨_,HN ta⟩,dl (a:=a) (vs:=ls.map HU) (λ i ys σ H'=>Same H H'/\(∃ (xs:List Addr) (xss:List (List Addr)),ys=xs.map HU/\xs.length=i/\xss.length=i/\xs.Nodup/\(∀ l∈xs,H l=none/\∃ zs,H' l=some (.lst zs))/\LsN H' xs xss L)/\i<=ls.length/\∃ v,σ=[v]) (by rw [Af]; exact ay (by lia)) (λ i ys σ H' h=>by obtain ⟨_,⟨xs,xss,rfl,e,_⟩,_⟩:=h; rw [Af,e]) (λ i ys σ H' h=>HN (h.1 _ _ ta)) ⟨HV _,⟨[],[],rfl,rfl,rfl,Gm,(λ l h=>nomatch h),λ j l ps rs h=>by simp at h⟩,AC _,none,rfl⟩ ?_ ?_⟩
  ·rintro i ys σ H2 x hx ⟨s2,⟨xs,xss,rfl,hxl,hxs,hxd,hxn,X2⟩,hi,v,rfl⟩
   have hil:=aY hx
   obtain ⟨l,rfl,el,hlm,hi'⟩:=bO hx
   have e2:pss[i]? = some (pss[i]'(by lia)):=Ac _
   have e3:L[i]? = some (L[i]'(by lia)):=Ac _
   obtain ⟨tl,R⟩:=X i l _ _ el e2 e3
   generalize pss[i]'(by lia)=ps at tl R
   generalize L[i]'(by lia)=rss at e3 R
   nofun
   refine mW (.inl (HN (s2 _ _ tl))) λ c hc=>?_
   have s3:=(HV H2).new (o:=.lst (ps.map HU)) hc
   refine Nx.mk hil ⟨s2.trans s3,⟨xs++[c],xss++[ps],by rw [AN]; rfl,by simp [hxl],by simp [hxs],?_,λ x hx=>?_,fT (bD X2 s3) (by lia) (by rw [hxl]; exact e3) aa ((R.same s2).same s3)⟩,by lia,_,rfl⟩
   ·refine Fx.mpr ⟨hxd,C6 _ _,λ a ha b hb e=>?_⟩
    rw [e,AJ.mp hb] at ha
    obtain ⟨zs,z⟩:=(hxn c ha).2
    rw [z] at hc; cases hc
   ·rcases AO.mp hx with g | g
    ·obtain ⟨zs,z⟩:=(hxn x g).2
     exact ⟨(hxn x g).1,zs,s3 _ _ z⟩
    ·rw [AJ.mp g]; exact ⟨s2.free hc,_,aa⟩
  rintro ys σ H2 ⟨s2,⟨xs,xss,rfl,hxl,hxs,hxd,hxn,X2⟩,hi,v,rfl⟩ x hx
  rw [Af] at hxl hxs
  have S2:=(iS (St2.refl hTp) s2).new (o:=.lst (xs.map HU)) hx
  have s3:=(HV H2).new (o:=.lst (xs.map HU)) hx
  have tx:(upd H2 x (.lst (xs.map HU))) x=some (.lst (xs.map HU)):=aa
  have hxx:∀ l∈xs,l≠x:=λ l hl e=>by obtain ⟨zs,z⟩:=(hxn l hl).2; rw [e,hx] at z; cases z
  have hxp:∀ l∈xs,l≠p:=λ l hl=>hTp.ne (hxn l hl).1
  have hx0:H x=none:=s2.free hx
  have hxp0:x≠p:=hTp.ne hx0
  have X3:=bD X2 s3
  generalize upd H2 x (.lst (xs.map HU))=H3 at S2 s3 tx X3
  nofun
  refine ⟨p,2,rfl,S2.tape,by decide,by decide,λ d H4 hd S4=>?_⟩
  have X4:LsN H4 xs xss L:=λ j l ps rs a b c=>by
   obtain ⟨u,v⟩:=X3 j l ps rs a b c
   exact ⟨S4.keep _ _ u (hxp l (Ax a)),v.st2 S2.tape S4⟩
  nofun
  refine ⟨1+d,by congr 1,by lia,by lia,dc (Pv:=λ n σ H'=>St2 p H H'/\H' x=some (.lst (xs.map HU))/\(∃ (yss:List (List Addr)) (M:List (List (List Nat))),LsN H' xs yss M/\yss.length=L.length/\M.length=L.length/\(∀ r∈M,Good r w 10)/\tot M<=200)/\∃ v1 v2 v3,σ=[some (HU p),some (HU a),some (HU x),v1,v2,v3]) ⟨S2.trans S4,S4.keep _ _ tx hxp0,⟨xss,L,X4,by lia,rfl,hG,hT⟩,_,_,_,rfl⟩ ?_ ?_⟩
  ·rintro n σ H5 hn ⟨S5,tx5,⟨yss,M,X5,hys,hM,hG5,hT5⟩,v1,v2,v3,rfl⟩
   dsimp only [Bw]
   nofun
   refine ⟨aR (by simp),λ em hem=>?_⟩
   have S6:=S5.new (o:=.lst []) hem
   have s6:=(HV H5).new (o:=.lst []) hem
   have tem:(upd H5 em (.lst [])) em=some (.lst []):=aa
   generalize upd H5 em (.lst [])=H6 at S6 s6 tem
   have X6:=bD X5 s6
   have tx6:=s6 _ _ tx5
   nofun
   refine ⟨x,em,xs.map HU,rfl,rfl,HN tx6,HN tem,?_⟩
   nofun
   by_cases hne:xs.map HU=[]
   ·rw [decide_eq_true hne]
    nofun
    exact ⟨S6,tx6,⟨yss,M,X6,hys,hM,hG5,hT5⟩,_,_,_,rfl⟩
   rw [decide_eq_false hne]
   have hm0:0<xs.length:=by
    rcases Bz xs.length with z | z
    ·exact absurd (by rw [Bm.mp z]; rfl) hne
    ·exact z
   nofun
   refine bt (HN tx6) ?_
   rw [Af]
   nofun
   refine ⟨p,_,rfl,S6.tape,by lia,by lia,λ r H7 e1 S7=>?_⟩
   have hr:r<xs.length:=by lia
   have tx7:=S7.keep _ _ tx6 hxp0
   have X7:LsN H7 xs yss M:=λ j l ps rs a b c=>by
    obtain ⟨u,v⟩:=X6 j l ps rs a b c
    exact ⟨S7.keep _ _ u (hxp l (Ax a)),v.st2 S6.tape S7⟩
   refine dI (HN tx7) (v:=HU xs[r]) (bE (by rw [Ak,Ac hr]; rfl)) ?_
   nofun
   refine ⟨p,2,rfl,S7.tape,by decide,by decide,λ c H8 hc S8=>?_⟩
   have S08:=(S6.trans S7).trans S8
   have tx8:=S8.keep _ _ tx7 hxp0
   have X8:LsN H8 xs yss M:=λ j l ps rs a b c=>by
    obtain ⟨u,v⟩:=X7 j l ps rs a b c
    exact ⟨S8.keep _ _ u (hxp l (Ax a)),v.st2 S7.tape S8⟩
   have eps:yss[r]? = some (yss[r]'(by lia)):=Ac _
   have eL:M[r]? = some (M[r]'(by lia)):=Ac _
   obtain ⟨tr,RR⟩:=X8 r _ _ _ (Ac hr) eps eL
   have hGr:=hG5 _ (Ax eL)
   have hlr:(M[r]'(by lia)).length<=200:=by have:=jE (Ax eL); lia
   have hmr:xs[r]∈xs:=AU hr
   generalize yss[r]'(by lia)=ps at eps tr RR
   generalize M[r]'(by lia)=rs at eL hGr hlr RR
   have hprl:ps.length=rs.length:=RR.1
   have fin:∀ {HZ:Hp} {ps':List Addr} {rs':List (List Nat)},St2 p H HZ->HZ x=some (.lst (xs.map HU))->LsN HZ xs yss M->RowsT HZ ps' rs'->rs'.length=rs.length->Good rs' w 10->St2 p H (upd HZ xs[r] (.lst (ps'.map HU)))/\(upd HZ xs[r] (.lst (ps'.map HU))) x=some (.lst (xs.map HU))/\(∃ (yss:List (List Addr)) (M:List (List (List Nat))),LsN (upd HZ xs[r] (.lst (ps'.map HU))) xs yss M/\yss.length=L.length/\M.length=L.length/\(∀ r∈M,Good r w 10)/\tot M<=200):=λ {HZ ps' rs'} SZ tz XZ RZ hlz hgz=>
    ⟨SZ.own (hxn _ hmr).1 (hxp _ hmr),by rw [aj (AV (hxx _ hmr))]; exact tz,⟨yss.set r ps',M.set r rs',uu XZ hxd hr eps eL RZ,by rw [Bj]; exact hys,by rw [Bj]; exact hM,(λ z hz=>(iT hz).elim (hG5 z) λ g=>by rw [g]; exact hgz),by rw [uv eL hlz]; exact hT5⟩⟩
   nofun
   refine bC (λ g=>?_) (λ g=>?_)
   ·nofun
    refine ⟨cr tr,?_⟩
    nofun
    refine ⟨_,_,rfl,rfl,tr,?_⟩
    rw [<-List.map_reverse]
    obtain ⟨f1,f2,f3⟩:=fin S08 tx8 X8 RR.rev (by simp) (λ z hz=>hGr z (List.mem_reverse.mp hz))
    exact ⟨f1,f2,f3,_,_,_,rfl⟩
   nofun
   refine bt (HN tr) ?_
   rw [Af]
   nofun
   refine bC (λ g2=>?_) (λ g2=>?_)
   ·nofun
    refine bt (HN tr) ?_
    rw [Af]
    nofun
    refine ⟨p,ps.length - 1,by rw [show ((ps.length:Nat):Int) - 1=((ps.length - 1:Nat):Int) by lia]; rfl,S8.tape,by lia,by lia,λ aq H9 e9 S9=>?_⟩
    have S09:=S08.trans S9
    have tx9:=S9.keep _ _ tx8 hxp0
    have X9:LsN H9 xs yss M:=λ j l ps rs a b c=>by
     obtain ⟨u,v⟩:=X8 j l ps rs a b c
     exact ⟨S9.keep _ _ u (hxp l (Ax a)),v.st2 S8.tape S9⟩
    obtain ⟨tr9,R9⟩:=X9 r _ _ _ (Ac hr) eps eL
    have p1:ps[aq+1]? = some (ps[aq+1]'(by lia)):=Ac _
    have p0:ps[aq]? = some (ps[aq]'(by lia)):=Ac _
    have r1:rs[aq+1]? = some (rs[aq+1]'(by lia)):=Ac _
    have r0:rs[aq]? = some (rs[aq]'(by lia)):=Ac _
    have tr1:=R9.2 _ _ _ p1 r1
    have tr0:=R9.2 _ _ _ p0 r0
    have gr1:=hGr _ (Ax r1)
    have gr0:=hGr _ (Ax r0)
    generalize ps[aq+1]'(by lia)=q1 at p1 tr1
    generalize ps[aq]'(by lia)=q0 at p0 tr0
    generalize rs[aq+1]'(by lia)=w1 at r1 tr1 gr1
    generalize rs[aq]'(by lia)=w0 at r0 tr0 gr0
    have ea:((aq:Nat):Int)+1=((aq+1:Nat):Int):=by lia
    nofun
    rw [ea]
    refine dI (HN tr9) (v:=HU q1) (bE (by rw [Ak,p1]; rfl)) ?_
    nofun
    refine dI (HN tr9) (v:=HU q0) (bE (by rw [Ak,p0]; rfl)) ?_
    nofun
    refine ⟨aR (by simp),λ tq htq=>?_⟩
    have S10:=S09.new (o:=.tup [HU q1,HU q0]) htq
    have s10:=(HV H9).new (o:=.tup [HU q1,HU q0]) htq
    refine ⟨tq,_,rfl,HQ aa,rfl,_,_,rfl,?_⟩
    generalize upd H9 tq (.tup [HU q1,HU q0])=HA at S10 s10
    nofun
    refine jl (s10 _ _ tr9) (nc rfl (by rw [Af]; lia)) ?_
    rw [<-E7]
    refine ⟨_,_,rfl,?_⟩
    nofun
    rw [ea]
    refine jl aa (nc rfl (by rw [Af,Bj]; lia)) ?_
    rw [<-E7,rF]
    refine ⟨rfl,?_⟩
    obtain ⟨f1,f2,f3⟩:=fin S10 (s10 _ _ tx9) (bD X9 s10) (((R9.same s10).put aq (s10 _ _ tr1)).put (aq+1) (s10 _ _ tr0)) (by simp) (λ z hz=>(iT hz).elim (λ h=>(iT h).elim (hGr z) λ g=>by rw [g]; exact gr1) λ g=>by rw [g]; exact gr0)
    nofun
    exact ⟨f1,f2,f3,_,_,_,rfl⟩
   ·nofun
    exact ⟨S08,tx8,⟨yss,M,X8,hys,hM,hG5,hT5⟩,_,_,_,rfl⟩
  ·rintro σ H5 ⟨S5,tx5,⟨yss,M,X5,hys,hM,hG5,hT5⟩,v1,v2,v3,rfl⟩
   nofun
   exact k x xs yss M H5 S5 tx5 (by lia) (by lia) X5 hG5 (by lia) hT5
noncomputable def uw:Sp:=λ vs H Q _=>∃ (b:Bool) (a:Addr) (ls:List Addr) (pss:List (List Addr)) (L:List (List (List Nat))) (cl:Bool),vs=[.ref a,.bl cl]/\LsF b H a ls pss L/\L.length<=100/\(∀ r∈L,r.length<=200)/\
  ((∃ j,j<L.length/\(∀ i,i<j->gY (L.getD i []))/\Dn (L.getD j [])/\∀ x H',Same H H'->H' x=some (.tup [.str "refused",.int (j:Nat)])->Q (.ref x) H')\/
   (∃ ds:List HP,(∀ r∈L,gY r)/\(fD L (Ap L.length 0) L.length).Perm ds/\iM ds/\ds.length<=900/\∀ x v H',Same H H'->H' x=some (.tup [.str "told",v])->(cl=true->v=.non)->(cl=false->∃ r ts,v=.ref r/\H' r=some (.lst (ts.map HU))/\PrV H' ts ds)->Q (.ref x) H'))
theorem fL (T:Tx K mg t):FnOk P w K mg base (CXE P w) 6 t.bS t.bR ["lists"] (λ vs H Q E=>oF vs H Q E\/oz t.ae vs H Q E):=(c6 T).both (gL T)
theorem eS (T:Tx K mg t):FnOk P w K mg base (CXE P w) 4 t.ba t.aZ ["self","lists"] (λ vs H Q E=>ox t.af vs H Q E\/k7 t.ae vs H Q E):=(dh T).both (cT T)
theorem k8 (T:Tx K mg t):FnOk P w K mg base CX0 7 t.kg t.ke ["_law_lists","_law_by_class"] uw:=by
 refine T.kb.okQ sc_asked (λ vs H Q E h=>?_) (λ cdv A outer s H vs Q E hr h=>?_)
 ·obtain ⟨b,a,ls,pss,L,cl,rfl,_⟩:=h
  rfl
 ·obtain ⟨b,a,ls,pss,L,cl,rfl,F,hL,hR,k⟩:=h
  have xc:XCl K t.ae:=⟨T.g1,T.g2,T.g3,T.g4,T.g5,T.g6⟩
  refine ⟨_,(ag (aA (i:=2) sc_asked.nd rfl (Av rfl) dG)
   (ag (aA (i:=3) sc_asked.nd rfl (Av rfl) dG)
   (ag (wc (K:=K) (i:=4) (eN (tN (gk (qv 1)) (eN (nL (kU T.cv (eS T) (hr.mono (by decide)) rfl T.ja T.cw (ao (qv 0) ac)))) (eN (re (i:=2) sc_asked.nd rfl (Av rfl) (kL (fL T) (hr.mono (by decide)) rfl T.dD T.bQ.kp T.dy (ao (qv 0) ac)))))) (λ _=>(am (aA (i:=3) sc_asked.nd rfl (Av rfl) (qv 4)))) sc_asked.nd rfl rfl rfl T.fI rfl rfl)
   (ag (cq (az vM (qv 3) dG (aE _)) (am (aU (cQ (ao gj (ao (qv 2) ac))))) bi)
   (ag (cq (QW.qt (mY (jn (gk (ax (nN (K:=K)) (by rfl) T.bj cC (ao (qv 3) (ao (kO rfl T.eC) ac))))) (jo (jn (gk (ax (nN (K:=K)) (by rfl) T.bj cC (ao (qv 3) (ao (mX rfl T.cX iP (v:=.ty "ValueError") rfl) ac)))))))) (am (aU (cQ (ao gj (ao dG ac))))) bi)
   (ag (cq (QW.qt (mY (gk (ax (tQ (K:=K)) (by rfl) T.bj cC (ao (qv 3) (ao (cQ (ao (kO rfl T.ki) (ao (kO rfl T.o7) (ao (kO rfl T.kl) ac)))) ac)))) (jo (gk (ax (vK (K:=K)) (by rfl) T.bj cC (ao (oh (K:=K) (qv 3)) (ao (mX rfl T.lq ua (v:=.ty "bool") rfl) ac))))))) (am (aU (cQ (ao gj (ao dG ac))))) bi)
   (am (aU (cQ (ao gj (ao (oh (K:=K) (qv 3)) ac))))))))))),?_⟩
  rw [show L2.bc ["_law_lists","_law_by_class","_law_found","_law_caught","e"] [HU a,V.bl cl]=[some (HU a),some (V.bl cl),none,none,none] from rfl]
  nofun
  cases cl with
  | true=>
   nofun
   unfold tV
   nofun
   intro w dx hw hdx hne
   have sN:Same H (upd (upd H dx (.own w)) w (.ins t.af dx [])):=λ b u e=>by
    rw [aj (ak e hw),aj (ak e hdx)]; exact e
   rcases k with ⟨j,hj,hlow,hdn,k⟩ | ⟨ds,hris,hP,hRi,hds,k⟩
   ·refine .inr ⟨w,b,a,ls,pss,L,j,rfl,⟨cE F sN,hL,hR,hj,hlow,hdn⟩,λ dx' H1 s1' hd=>⟨_,rfl,T.g7,λ e he=>?_⟩⟩
    have s1:=sN.trans s1'
    try dsimp only [Bw]
    have hne':dx'≠e:=ak hd he
    have s2:=s1.new (o:=gW e t.ae (some dx')) he
    have te:(upd H1 e (gW e t.ae (some dx'))) e=some (gW e t.ae (some dx')):=aa
    have td:(upd H1 e (gW e t.ae (some dx'))) dx'=some (.xd [("place",.int (j:Nat))]):=by rw [aj hne']; exact hd
    generalize upd H1 e (gW e t.ae (some dx'))=H2 at s2 te td
    nofun
    refine qS (λ z=>nomatch z) ?_
    nofun
    refine ⟨_,_,_,true,rfl,rfl,.exc te xc,T.g9,?_⟩
    nofun
    refine ⟨_,_,_,true,rfl,rfl,.exc te xc,T.ga,?_⟩
    nofun
    refine ⟨aR (by simp),λ tp htp=>?_⟩
    have s23:=(HV H2).new (o:=.tup [HU t.aK,HU t.bq,HU t.aL]) htp
    have ttp:(upd H2 tp (.tup [HU t.aK,HU t.bq,HU t.aL])) tp=some (.tup [HU t.aK,HU t.bq,HU t.aL]):=aa
    generalize upd H2 tp (.tup [HU t.aK,HU t.bq,HU t.aL])=H3 at s23 ttp
    refine ⟨_,_,tp,_,false,rfl,ttp,rfl,.exc (s23 _ _ te) xc,T.g8,?_⟩
    nofun
    refine ⟨e,t.ae,dx',_,.int (j:Nat),rfl,s23 _ _ te,s23 _ _ td,xc,T.aP.no,T.gb,eP,?_⟩
    nofun
    refine ⟨e,t.ae,dx',_,.int (j:Nat),rfl,s23 _ _ te,s23 _ _ td,xc,T.aP.no,T.gb,eP,?_⟩
    nofun
    refine ⟨aR (by simp),λ x hx=>?_⟩
    exact k x _ ((s2.trans s23).new hx) aa
   ·refine .inl ⟨b,w,dx,a,ls,pss,L,rfl,aa,cE F sN,hL,(λ r hr=>⟨hris r hr,hR r hr⟩),λ la ma ha ls' pss' hts hs H1 n1 n2 n3 n4 W O kp=>⟨rfl,?_⟩⟩
    have s1:Same H H1:=λ b o e=>kp b o (sN _ _ e) (ak e hw)
    nofun
    refine qR rfl ?_
    nofun
    refine ⟨aR (by simp),λ x hx=>?_⟩
    exact k x _ _ (s1.new hx) aa (λ _=>rfl) λ z=>nomatch z
  | false=>
   nofun
   rcases k with ⟨j,hj,hlow,hdn,k⟩ | ⟨ds,hris,hP,hRi,hds,k⟩
   ·refine .inr ⟨b,a,ls,pss,L,j,rfl,⟨F,hL,hR,hj,hlow,hdn⟩,λ dx' H1 s1 hd=>⟨_,rfl,T.g7,λ e he=>?_⟩⟩
    try dsimp only [Bw]
    have hne':dx'≠e:=ak hd he
    have s2:=s1.new (o:=gW e t.ae (some dx')) he
    have te:(upd H1 e (gW e t.ae (some dx'))) e=some (gW e t.ae (some dx')):=aa
    have td:(upd H1 e (gW e t.ae (some dx'))) dx'=some (.xd [("place",.int (j:Nat))]):=by rw [aj hne']; exact hd
    generalize upd H1 e (gW e t.ae (some dx'))=H2 at s2 te td
    nofun
    refine qS (λ z=>nomatch z) ?_
    nofun
    refine ⟨_,_,_,true,rfl,rfl,.exc te xc,T.g9,?_⟩
    nofun
    refine ⟨_,_,_,true,rfl,rfl,.exc te xc,T.ga,?_⟩
    nofun
    refine ⟨aR (by simp),λ tp htp=>?_⟩
    have s23:=(HV H2).new (o:=.tup [HU t.aK,HU t.bq,HU t.aL]) htp
    have ttp:(upd H2 tp (.tup [HU t.aK,HU t.bq,HU t.aL])) tp=some (.tup [HU t.aK,HU t.bq,HU t.aL]):=aa
    generalize upd H2 tp (.tup [HU t.aK,HU t.bq,HU t.aL])=H3 at s23 ttp
    refine ⟨_,_,tp,_,false,rfl,ttp,rfl,.exc (s23 _ _ te) xc,T.g8,?_⟩
    nofun
    refine ⟨e,t.ae,dx',_,.int (j:Nat),rfl,s23 _ _ te,s23 _ _ td,xc,T.aP.no,T.gb,eP,?_⟩
    nofun
    refine ⟨e,t.ae,dx',_,.int (j:Nat),rfl,s23 _ _ te,s23 _ _ td,xc,T.aP.no,T.gb,eP,?_⟩
    nofun
    refine ⟨aR (by simp),λ x hx=>?_⟩
    exact k x _ ((s2.trans s23).new hx) aa
   ·refine .inl ⟨b,a,ls,pss,L,ds,rfl,F,hL,(λ r hr=>⟨hris r hr,hR r hr⟩),hP,hRi,hds,λ r ts H1 s1 hr tr D=>?_⟩
    nofun
    refine qR rfl ?_
    nofun
    refine ⟨aR (by simp),λ x hx=>?_⟩
    have s2:=(HV H1).new (o:=.tup [V.str "told",HU r]) hx
    exact k x _ _ (s1.trans s2) aa (λ z=>nomatch z) λ _=>⟨r,ts,rfl,s2 _ _ tr,D.tups λ b xs e=>s2 _ _ e⟩
noncomputable def mh (r:List Nat):List PyData:=r.map λ x:Nat=>DY x
theorem j9 {H:Hp} (n:Nat) {x:Nat} (h:x<1000):DatAt n H (.int (x:Nat)) (.int (x:Nat)):=by
 have:((x:Nat):Int).natAbs<10 ^ 12:=by rw [C0]; lia
 cases n with
 | zero=>exact ⟨_,rfl,rfl,this⟩
 | succ n=>exact .inl ⟨_,rfl,rfl,this⟩
theorem ka {H:Hp} (n:Nat) (h:∀ x∈r,x<1000):∀ (i:Nat) u e,(NV r)[i]? = some u->(mh r)[i]? = some e->DatAt n H u e:=by
 intro i u e e1 e2
 obtain ⟨o,rfl,ho,hm,_⟩:=bO e1
 unfold mh at e2
 rw [Ak,ho] at e2
 cases e2
 exact j9 n (h o hm)
theorem jF:∀ {r:List Nat},(∀ x∈r,x<1000)->AL (mh r)<=12*r.length
 | [],_=>Ai _
 | x::r,h=>by
  have h1:=jF λ y hy=>h y (AG _ hy)
  have hx:=h x (A1 ..)
  show AL (DY x::mh r)<=_
  rw [AL,Az]
  have h2:(DY (x:Nat)).weight<=10:=by
   rw [Bp]
   split
   ·lia
   ·rename_i g
    rw [C0]
    have h0:x≠0:=λ z=>g (by rw [z]; rfl)
    have:=(DD h0).mpr (show x<2 ^ 10 by lia)
    lia
  lia
theorem k9 {y:Str} {H:Hp} {Q:VK} (h:Q (.bl (!decide (V.str x=V.str y))) H):rNe (.str x) (.str y) H Q:=⟨rfl,h⟩
theorem DatAt.datM {H:Hp}:∀ {n:Nat} {x:V} {d:PyData},DatAt n H x d->DatM n H x d
 | 0,x,d,h=>by obtain ⟨i,rfl,rfl,hi⟩:=h; exact .inr (.inr (.inl ⟨i,rfl,rfl,Ea hi (by decide)⟩))
 | n+1,x,d,h=>by
  rcases h with ⟨i,rfl,rfl,hi⟩ | ⟨a,xs,ds,rfl,rfl,ha,hl,hi⟩ | ⟨a,xs,ds,rfl,rfl,ha,hl,hi⟩
  ·exact .inl (.inr (.inr (.inl ⟨i,rfl,rfl,Ea hi (by decide)⟩)))
  ·exact .inr (.inl ⟨a,xs,ds,rfl,rfl,ha,hl,λ i u v e1 e2=>DatAt.datM (hi i u v e1 e2)⟩)
  ·exact .inr (.inr ⟨a,xs,ds,rfl,rfl,ha,hl,λ i u v e1 e2=>DatAt.datM (hi i u v e1 e2)⟩)
theorem jG {H:Hp}:∀ {ps:List Addr} {rss:List (List Nat)},RowsS H ps rss->(∀ r∈rss,r.length<=120/\∀ x∈r,x<1000)->∃ ds:List PyData,ds.length=ps.length/\(∀ (i:Nat) u e,(ps.map HU)[i]? = some u->ds[i]? = some e->DatAt 1 H u e)/\AL ds<=1500*ps.length
 | [],rss,h,_=>⟨[],rfl,λ i u e a=>by simp at a,Ai _⟩
 | p::ps,[],h,_=>by have:=h.1; simp at this
 | p::ps,r::rss,h,hr=>by
  obtain ⟨ds,e1,e2,e3⟩:=jG (ps:=ps) (rss:=rss) ⟨by have:=h.1; simpa using this,λ i p r a b=>h.2 (i+1) p r a b⟩ λ y hy=>hr y (AG _ hy)
  obtain ⟨g1,g2⟩:=hr r (A1 ..)
  have hw:=jF g2
  have hp:=h.2 0 p r rfl rfl
  have hln:(NV r).length=(mh r).length:=by rw [bP]; unfold mh; rw [Af]
  have:∃ d:PyData,DatAt 1 H (.ref p) d/\d.weight<=12*r.length+20:=by
   rcases hp with e | e
   ·exact ⟨.list (mh r),.inr (.inl ⟨p,_,_,rfl,rfl,e,hln,ka 0 g2⟩),by rw [Bp]; lia⟩
   ·exact ⟨.tuple (mh r),.inr (.inr ⟨p,_,_,rfl,rfl,e,hln,ka 0 g2⟩),by rw [Bp]; lia⟩
  obtain ⟨d,hd,hdw⟩:=this
  refine ⟨d::ds,by simp [e1],λ i u e a b=>?_,by rw [AL,Az]; lia⟩
  match i,a,b with
  | 0,a,b=>cases a; cases b; exact hd
  | i+1,a,b=>exact e2 i u e a b
theorem lc {b:Bool} {H:Hp}:∀ {ls:List Addr} {pss:List (List Addr)} {L:List (List (List Nat))},ls.length=L.length->pss.length=L.length->(∀ (i:Nat) l ps rss,ls[i]? = some l->pss[i]? = some ps->L[i]? = some rss->H l=some (if b=true then .lst (ps.map HU) else .tup (ps.map HU))/\RowsS H ps rss)->(∀ q∈L,∀ r∈q,r.length<=120/\∀ x∈r,x<1000)->∃ ds:List PyData,ds.length=ls.length/\(∀ (i:Nat) u e,(ls.map HU)[i]? = some u->ds[i]? = some e->DatAt 2 H u e)/\AL ds<=1500*tot L+20*L.length
 | [],pss,L,h1,h2,h,_=>⟨[],rfl,λ i u e a=>by simp at a,AC _⟩
 | l::ls,[],L,h1,h2,h,_=>by simp at h1 h2; lia
 | l::ls,ps::pss,[],h1,h2,h,_=>by simp at h1
 | l::ls,ps::pss,q::L,h1,h2,h,hr=>by
  obtain ⟨ds,e1,e2,e3⟩:=lc (ls:=ls) (pss:=pss) (L:=L) (by simpa using h1) (by simpa using h2) (λ i l ps rss a b c=>h (i+1) l ps rss a b c) λ y hy=>hr y (AG _ hy)
  obtain ⟨t,R⟩:=h 0 l ps q rfl rfl rfl
  obtain ⟨xs,g1,g2,g3⟩:=jG R (hr q (A1 ..))
  have hq:=R.1
  have:∃ d:PyData,DatAt 2 H (.ref l) d/\d.weight<=AL xs+15:=by
   cases b with
   | true=>exact ⟨.list xs,.inr (.inl ⟨l,_,_,rfl,rfl,t,by rw [Af,g1],g2⟩),by rw [Bp]; lia⟩
   | false=>exact ⟨.tuple xs,.inr (.inr ⟨l,_,_,rfl,rfl,t,by rw [Af,g1],g2⟩),by rw [Bp]; lia⟩
  obtain ⟨d,hd,hdw⟩:=this
  have ht:tot (q::L)=q.length+tot L:=by unfold tot; simp
  refine ⟨d::ds,by simp [e1],λ i u e a b=>?_,by rw [AL,Az,ht]; lia⟩
  match i,a,b with
  | 0,a,b=>cases a; cases b; exact hd
  | i+1,a,b=>exact e2 i u e a b
theorem oI {b:Bool} {H:Hp} {pss:List (List Addr)} {L:List (List (List Nat))} {w:Nat} (h:LsF b H a ls pss L) (hG:∀ r∈L,Good r w 10) (hw:w<=120) (hL:L.length<=12) (hT:tot L<=200):∃ D,DatM 3 H (.ref a) D/\D.weight<=2 ^ 19:=by
 obtain ⟨ds,e1,e2,e3⟩:=lc h.2.1 h.2.2.1 h.2.2.2 λ q hq r hr=>by
  have:=(hG q hq) r hr
  exact ⟨by lia,λ x hx=>by have:=this.2 x hx; lia⟩
 have h5:(2:Nat) ^ 19=524288:=by decide
 have ta:=h.1
 cases b with
 | true=>exact ⟨.list ds,DatAt.datM (n:=3) (.inr (.inl ⟨a,_,_,rfl,rfl,ta,by rw [Af,e1],e2⟩)),by rw [Bp]; lia⟩
 | false=>exact ⟨.tuple ds,DatAt.datM (n:=3) (.inr (.inr ⟨a,_,_,rfl,rfl,ta,by rw [Af,e1],e2⟩)),by rw [Bp]; lia⟩
noncomputable def prD (x:HP):PyData:=.tuple [.int (x.2:Nat),.tuple (mh x.1)]
theorem wv:∀ {ds:List HP},(∀ x∈ds,x.2<1000/\x.1.length<=120/\∀ y∈x.1,y<1000)->AL (ds.map prD)<=1500*ds.length
 | [],_=>Ai _
 | x::ds,h=>by
  have h1:=wv λ y hy=>h y (AG _ hy)
  obtain ⟨g0,g1,g2⟩:=h x (A1 ..)
  have h2:=jF g2
  have h3:=jF (r:=[x.2]) (λ y hy=>by rw [AJ.mp hy]; exact g0)
  rw [show mh [x.2]=[DY (x.2:Nat)] from rfl,AL,AL] at h3
  rw [Bo,AL,Az]
  unfold prD at *
  rw [Bp,AL,AL,AL,Bp]
  simp only [BF] at h3
  lia
theorem ux {H:Hp} {ds:List HP} (h:PrV H ts ds) (hs:∀ x∈ds,x.2<1000/\x.1.length<=120/\∀ y∈x.1,y<1000):∀ (i:Nat) u e,(ts.map HU)[i]? = some u->(ds.map prD)[i]? = some e->DatM 2 H u e:=by
 intro i u e a b
 obtain ⟨q,rfl,eq,_,_⟩:=bO a
 rw [Ak] at b
 obtain ⟨x,ex,rfl⟩:=Be.mp b
 obtain ⟨r,e1,e2⟩:=h.2 i q x eq ex
 obtain ⟨g0,g1,g2⟩:=hs x (Ax ex)
 refine .inr (.inr ⟨q,_,_,rfl,rfl,e1,rfl,λ j u e a b=>?_⟩)
 match j,a,b with
 | 0,a,b=>cases a; cases b; exact DatAt.datM (n:=1) (j9 1 g0)
 | 1,a,b=>cases a; cases b; exact DatAt.datM (n:=1) (.inr (.inr ⟨r,_,_,rfl,rfl,e2,by rw [bP]; unfold mh; rw [Af],ka 0 g2⟩))
noncomputable def uy (ds:List HP):PyData:=.tuple [.str "told",.list (ds.map prD)]
noncomputable def wX (j:Nat):PyData:=.tuple [.str "refused",.int (j:Nat)]
theorem lg {H:Hp} (y:Str) (h:(He y).showable=true) (h2:Bq 25 (.str y)=true):DatM n H (.str y) (.str y):=DatM.leaf (.inr (.inr (.inr ⟨y,rfl,rfl,h,h2⟩)))
theorem lh {H:Hp} {x r:Addr} {ds:List HP} (e:H x=some (.tup [.str "told",.ref r])) (er:H r=some (.lst (ts.map HU))) (h:PrV H ts ds) (hs:∀ x∈ds,x.2<1000/\x.1.length<=120/\∀ y∈x.1,y<1000) (hl:ds.length<=200):DatM 4 H (.ref x) (uy ds)/\(uy ds).weight<=2 ^ 19:=by
 constructor
 ·refine .inr (.inr ⟨x,_,_,rfl,rfl,e,rfl,λ j u e a b=>?_⟩)
  match j,a,b with
  | 0,a,b=>cases a; cases b; exact lg _ (by decide +kernel) (by decide +kernel)
  | 1,a,b=>cases a; cases b; exact .inr (.inl ⟨r,_,_,rfl,rfl,er,by rw [Af,Af]; exact h.1,ux h hs⟩)
 ·have h1:=wv hs
  have h5:(2:Nat) ^ 19=524288:=by decide
  have h6:(("told" : Str)).cps.size=4:=by decide +kernel
  unfold uy
  rw [Bp,AL,AL,AL,Bp,Bp,h6]
  lia
theorem oJ {H:Hp} {x:Addr} (e:H x=some (.tup [.str "refused",.int (j:Nat)])) (hj:j<1000):DatM 4 H (.ref x) (wX j)/\(wX j).weight<=2 ^ 19:=by
 constructor
 ·refine .inr (.inr ⟨x,_,_,rfl,rfl,e,rfl,λ j u e a b=>?_⟩)
  match j,a,b with
  | 0,a,b=>cases a; cases b; exact lg _ (by decide +kernel) (by decide +kernel)
  | 1,a,b=>cases a; cases b; exact DatAt.datM (n:=3) (j9 3 hj)
 ·have h3:=jF (r:=[j]) (λ y hy=>by rw [AJ.mp hy]; exact hj)
  rw [show mh [j]=[DY (j:Nat)] from rfl,AL,AL] at h3
  have h5:(2:Nat) ^ 19=524288:=by decide
  have h6:(("refused" : Str)).cps.size=7:=by decide +kernel
  simp only [BF] at h3
  unfold wX
  rw [Bp,AL,AL,AL,Bp,h6]
  lia
theorem li {H:Hp} {x:Addr} (e:H x=some (.tup [.str "refused",.int (j:Nat)])):DatE 1 H (.ref x) (wX j):=by
 refine DatE.tup e rfl λ i u e a b=>?_
 match i,a,b with
 | 0,a,b=>cases a; cases b; exact DatE.str (by decide +kernel)
 | 1,a,b=>cases a; cases b; exact DatE.int _
theorem jH {H:Hp} {x:Addr} (e:H x=some (.tup [.str "told",.non])):DatE 1 H (.ref x) (.tuple [.str "told",.none]):=by
 refine DatE.tup e rfl λ i u e a b=>?_
 match i,a,b with
 | 0,a,b=>cases a; cases b; exact DatE.str (by decide +kernel)
 | 1,a,b=>cases a; cases b; exact DatE.non
theorem oK (L:List (List (List Nat))) {x:HP}:∀ n,n<=L.length->x∈fD L (ff L) n->x.2<L.length/\∃ q∈L,x.1∈q
 | 0,_,h=>by cases h
 | n+1,hn,h=>by
  rw [cL] at h
  rcases AO.mp h with h | h
  ·exact oK L n (by lia) h
  ·rw [gM] at h
   obtain ⟨r,hr,rfl⟩:=Ct.mp h
   rw [Ag,Ac (show n<L.length by lia)] at hr
   exact ⟨by show n<_; lia,_,AU (show n<L.length by lia),hr⟩
noncomputable def Fo (L:List (List (List Nat))):Option Nat->Prop
 | none=>∀ i,i<L.length->¬ Dn (L.getD i [])
 | some j=>j<L.length/\(∀ i,i<j->¬ Dn (L.getD i []))/\Dn (L.getD j [])
noncomputable def flV:Option Nat->V
 | none=>.non
 | some j=>.int (j:Nat)
theorem qB {Q:VK} {E:XK} {H:Hp} {pss:List (List Addr)} {L:List (List (List Nat))} (F:LsT H a ls pss L) (hL:L.length<=100) (hR:∀ r∈L,r.length<=200) (h:∀ o H',Same H H'->Fo L o->Q (flV o) H'):oG [.ref a] H Q E:=
 ⟨a,ls,pss,L,rfl,F,hL,hR,λ H' s n=>h none H' s n,λ H' j s a b c=>h (some j) H' s ⟨a,b,c⟩⟩
noncomputable def DueA (H:Hp) (L:List (List (List Nat))) (d:Addr):Option Nat->Prop
 | none=>∃ r ts ds,H d=some (.tup [.str "told",.ref r])/\H r=some (.lst (ts.map HU))/\DueAt H ts ds/\iM ds/\ds.Perm (fD L (ff L) L.length)
 | some j=>H d=some (.tup [.str "refused",.int (j:Nat)])
theorem DueA.same {H H1:Hp} {L:List (List (List Nat))} {d:Addr} (s:Same H H1):∀ {o:Option Nat},DueA H L d o->DueA H1 L d o
 | none,⟨r,ts,ds,a,b,c,e⟩=>⟨r,ts,ds,s _ _ a,s _ _ b,c.same s,e⟩
 | some j,h=>s _ _ h
noncomputable def uz:Sp:=λ vs H Q _=>∃ (a:Addr) (ls:List Addr) (pss:List (List Addr)) (L:List (List (List Nat))) (w:Nat),vs=[.ref a]/\H a=some (.lst (ls.map HU))/\ls.length=L.length/\pss.length=L.length/\LsN H ls pss L/\(∀ r∈L,Good r w 10)/\w<=120/\L.length<=12/\tot L<=200/\∀ H',Same H H'->Q (.bl true) H'
theorem lj (T:Tx K mg t):FnOk P w K mg base CX0 8 t.kh t.kf ["_law_lists"] uz:=by
 refine T.kc.okQ sc_right (λ vs H Q E h=>?_) (λ cdv A outer s H vs Q E hr h=>?_)
 ·obtain ⟨a,ls,pss,L,w,rfl,_⟩:=h
  rfl
 ·obtain ⟨a,ls,pss,L,w,rfl,ta,hll,hpl,X,hG,hw,hL,hT,k⟩:=h
  have hR:∀ r∈L,r.length<=200:=λ r hr=>by have:=jE hr; lia
  have gd:∀ {i:Nat} (hi:i<L.length),L.getD i []=L[i]:=λ {i} hi=>by rw [Ag,Ac hi]; rfl
  refine ⟨_,(ag (aA (i:=1) sc_right.nd rfl (Av rfl) (av (hV T) (hr.mono (by decide)) rfl T.i8 T.fg.kp T.iX aG (ao (qv 0) ac)))
   (ag (aA (i:=2) sc_right.nd rfl (Av rfl) (cQ (ao gj (ao (qv 1) ac))))
   (ag (cq (az vM (qv 1) dG (aE _)) (am (aA (i:=2) sc_right.nd rfl (Av rfl) (cQ (ao gj (ao (av (iW T) (hr.mono (by decide)) rfl T.jL T.fF.kp T.jK aG (ao (qv 0) ac)) ac))))) bi)
   (ag (cy A2 rfl (m4 (K:=K) (cQ (ao (qv 0) (ao (aD (bX (K:=K)) (by rfl) T.bW cf (ao (cH (N:=["_law_some"]) (tgs:=["_law_some"]) (frs:=[]) (ix:=[]) ⟨rfl,by decide +kernel,rfl,by decide +kernel,rfl,rfl,AK,AK,rfl⟩ rfl (c4 (K:=K) (qv 0)) (λ _ _ _ _=>(au (i:=0) (by show BJ (["_law_some"]:List Str); decide +kernel) rfl (Av rfl))) (λ _ _ _ _=>(aD (bX (K:=K)) (by rfl) T.bW cf (ao (qv 0) ac)))) ac)) ac)))) (au (i:=3) sc_right.nd rfl (Av rfl)) (ag (aA (i:=4) sc_right.nd rfl (Av rfl) (aD (iN hr.gd hr.units) (by rfl) T.km kX (ao (qv 3) ac)))
   (ag (cq (QW.qt (mY (az yW (aD (iN hr.gd hr.units) (by rfl) T.km kX (ao (av (k8 T) (hr.mono (by decide)) rfl T.oZ T.kb.kp T.oM aG (ao (qv 3) (ao jm ac))) ac)) (aD (iN hr.gd hr.units) (by rfl) T.km kX (ao (qv 2) ac)) (aE _)) (jo (az yW (aD (iN hr.gd hr.units) (by rfl) T.km kX (ao (qv 3) ac)) (qv 4) (aE _))))) (am (aU jm)) bi)
   (am (cq (az (yy hr.units) (av (k8 T) (hr.mono (by decide)) rfl T.oZ T.kb.kp T.oM aG (ao (qv 3) (ao jm ac))) (pX (az nR (qv 1) dG (aE _)) (qv 2) (cQ (ao gj (ao dG ac)))) (aE _)) (am (aU jm)) bi)))))
   (am (aU jm)))))),?_⟩
  rw [show L2.bc ["_law_lists","_law_fault","_law_due","_law_handed","_law_kept"] [HU a]=[some (HU a),none,none,none,none] from rfl]
  nofun
  refine qB ⟨ta,hll,hpl,X⟩ (by lia) hR λ o H1 s1 ho=>?_
  nofun
  refine ⟨aR (by simp),λ d1 hd1=>?_⟩
  dsimp only [Bw]
  have s2:=s1.new (o:=.tup [V.str "refused",flV o]) hd1
  have td1:(upd H1 d1 (.tup [V.str "refused",flV o])) d1=some (.tup [V.str "refused",flV o]):=aa
  generalize upd H1 d1 (.tup [V.str "refused",flV o])=H2 at s2 td1
  nofun
  apply yi (α:=Addr) (S:=λ d HD=>Same H HD/\DueA HD L d o)
  ·intro B
   by_cases hn:o=none
   ·rw [decide_eq_true (show flV o=V.non by rw [hn]; rfl)]
    nofun
    refine ⟨a,ls,pss,L,rfl,s2 _ _ ta,hll,hpl,bD X s2,hL,hT,λ r ts ds H3 hr s3 tr D R P=>?_⟩
    nofun
    refine ⟨aR (by simp),λ d hd=>?_⟩
    have s4:=(HV H3).new (o:=.tup [V.str "told",HU r]) hd
    have td:(upd H3 d (.tup [V.str "told",HU r])) d=some (.tup [V.str "told",HU r]):=aa
    generalize upd H3 d (.tup [V.str "told",HU r])=HD at s4 td
    nofun
    exact B d HD ⟨(s2.trans s3).trans s4,by rw [hn]; exact ⟨r,ts,ds,td,s4 _ _ tr,D.same s4,R,P⟩⟩
   ·rw [decide_eq_false (show ¬ flV o=V.non by cases o with | none=>exact absurd rfl hn | some j=>exact λ z=>nomatch z)]
    nofun
    exact B d1 H2 ⟨s2,by cases o with | none=>exact absurd rfl hn | some j=>exact td1⟩
  intro d H3 hq
  obtain ⟨s3,hD⟩:=hq
  clear td1 s2
  nofun
  refine ⟨a,rfl,⟨_,HN (s3 _ _ ta)⟩,dl (a:=a) (vs:=ls.map HU) (λ i ys σ H'=>Same H3 H'/\(∃ (xs:List Addr) (xss:List (List Addr)),ys=xs.map HU/\xs.length=i/\xss.length=i/\∀ (j:Nat) l ps rss,xs[j]? = some l->xss[j]? = some ps->L[j]? = some rss->H' l=some (.tup (ps.map HU))/\RowsS H' ps rss)/\i<=ls.length/\∃ v,σ=[v]) (by rw [Af]; exact ay (by lia)) (λ i ys σ H' h=>by obtain ⟨_,⟨xs,xss,rfl,e,_⟩,_⟩:=h; rw [Af,e]) (λ i ys σ H' h=>HN (h.1 _ _ (s3 _ _ ta))) ⟨HV _,⟨[],[],rfl,rfl,rfl,λ j l ps rss h=>by simp at h⟩,AC _,none,rfl⟩ ?_ ?_⟩
  ·rintro i ys σ H4 x hx ⟨s4,⟨xs,xss,rfl,hxl,hxs,hX⟩,hi,v,rfl⟩
   have hil:=aY hx
   obtain ⟨l,rfl,el,hlm,hi'⟩:=bO hx
   have e2:pss[i]? = some (pss[i]'(by lia)):=Ac _
   have e3:L[i]? = some (L[i]'(by lia)):=Ac _
   obtain ⟨tl,R⟩:=X i l _ _ el e2 e3
   generalize pss[i]'(by lia)=ps at tl R
   generalize L[i]'(by lia)=rss at e3 R
   nofun
   refine gh (HN (s4 _ _ (s3 _ _ tl))) λ c hc=>?_
   have s5:=(HV H4).new (o:=.tup (ps.map HU)) hc
   refine Nx.mk hil ⟨s4.trans s5,⟨xs++[c],xss++[ps],by rw [AN]; rfl,by simp [hxl],by simp [hxs],λ j l' ps' rss' a b d=>?_⟩,by lia,_,rfl⟩
   rcases bY a with ⟨g,a⟩ | ⟨g,a⟩
   ·rcases bY b with ⟨_,b⟩ | ⟨g',b⟩
    ·obtain ⟨u,v⟩:=hX j l' ps' rss' a b d
     exact ⟨s5 _ _ u,v.same s5⟩
    ·lia
   ·rcases bY b with ⟨g',b⟩ | ⟨_,b⟩
    ·lia
    ·rw [g,hxl,e3] at d
     cases d
     rw [a,b]; exact ⟨aa,(((R.same s3).same s4).same s5).toS⟩
  rintro ys σ H4 ⟨s4,⟨xs,xss,rfl,hxl,hxs,hX⟩,hi,v,rfl⟩ xl hxl0
  rw [Af] at hxl hxs
  have s5:=(HV H4).new (o:=.lst (xs.map HU)) hxl0
  have txl:(upd H4 xl (.lst (xs.map HU))) xl=some (.lst (xs.map HU)):=aa
  generalize upd H4 xl (.lst (xs.map HU))=H5 at s5 txl
  nofun
  refine gh (HN txl) λ y hy=>?_
  have s6:=s5.new (o:=.tup (xs.map HU)) hy
  have F6:LsF false (upd H5 y (.tup (xs.map HU))) y xs xss L:=⟨aa,by lia,by lia,λ j l ps rss a b c=>by obtain ⟨u,v⟩:=hX j l ps rss a b c; exact ⟨s6 _ _ u,v.same s6⟩⟩
  generalize upd H5 y (.tup (xs.map HU))=H6 at s6 F6
  have s36:=s4.trans s6
  nofun
  refine ⟨aR (by simp),λ tq htq=>?_⟩
  have s7:=(HV H6).new (o:=.tup [HU a,HU y]) htq
  have ttq:(upd H6 tq (.tup [HU a,HU y])) tq=some (.tup [HU a,HU y]):=aa
  generalize upd H6 tq (.tup [HU a,HU y])=H7 at s7 ttq
  have F7:=cE F6 s7
  have s37:=s36.trans s7
  have s07:=s3.trans s37
  have FA:LsF true H7 a ls pss L:=⟨s07 _ _ ta,hll,hpl,λ j l ps rss a b c=>by obtain ⟨u,v⟩:=X j l ps rss a b c; exact ⟨s07 _ _ u,(v.same s07).toS⟩⟩
  have D7:=hD.same s37
  clear hD s7 s36 F6 s6 txl s5 hX s4 s37
  refine ⟨tq,rfl,⟨_,HQ ttq⟩,rZ (a:=tq) (xs:=[HU a,HU y]) (λ i σ H'=>Same H7 H'/\∃ v3 v4,σ=[some (HU a),some (flV o),some (HU d),v3,v4]) ⟨HV _,_,_,rfl⟩ (λ i σ H' _ h=>HQ (h.1 _ _ ttq)) ?_ ?_⟩
  ·rintro i x σ H8 hx ⟨s8,v3,v4,rfl⟩
   obtain ⟨b,c,ls',pss',rfl,F8⟩:∃ b c ls' pss',x=HU c/\LsF b H8 c ls' pss' L:=by
    match i,hx with
    | 0,hx=>cases hx; exact ⟨true,a,_,_,rfl,cE FA s8⟩
    | 1,hx=>cases hx; exact ⟨false,y,_,_,rfl,cE F7 s8⟩
   obtain ⟨D,hDm,hDw⟩:=oI F8 hG hw hL hT
   have D8:=D7.same s8
   nofun
   refine eR hDm (by decide) hDw ?_
   nofun
   cases o with
   | none=>
    obtain ⟨r,ts,ds,td,tr,Du,Ri,Pe⟩:=D8
    have hris:∀ r∈L,gY r:=λ r hr=>by
     obtain ⟨i,hi,rfl⟩:=AS hr
     have:=ho i hi
     rw [gd hi] at this
     exact rn this
    have hds:ds.length<=200:=by
     rw [Pe.length_eq,fU L _ (Ai _)]
     have:=iV L L.length
     lia
    have hsd:∀ x∈ds,x.2<1000/\x.1.length<=120/\∀ y∈x.1,y<1000:=λ x hx=>by
     obtain ⟨g1,q,hq,g2⟩:=oK L _ (Ai _) (Pe.mem_iff.mp hx)
     have:=hG q hq _ g2
     exact ⟨by lia,by lia,λ y hy=>by have:=this.2 y hy; lia⟩
    refine ⟨b,c,ls',pss',L,false,rfl,F8,by lia,hR,.inr ⟨ds,hris,Pe.symm,Ri,by lia,λ x v H9 s9 tx _ hv=>?_⟩⟩
    obtain ⟨r',ts',rfl,tr',P'⟩:=hv rfl
    obtain ⟨q1,q2⟩:=lh tx tr' P' hsd hds
    obtain ⟨q3,q4⟩:=lh (s9 _ _ td) (s9 _ _ tr) (Du.same s9) hsd hds
    nofun
    refine eR q1 (by decide) q2 ?_
    nofun
    refine eR q3 (by decide) q4 ?_
    refine k9 ?_
    rw [decide_eq_true rfl]
    nofun
    refine eR (hDm.same s9) (by decide) hDw ?_
    nofun
    refine k9 ?_
    rw [decide_eq_true rfl]
    nofun
    refine ⟨b,c,ls',pss',L,true,rfl,cE F8 s9,by lia,hR,.inr ⟨ds,hris,Pe.symm,Ri,by lia,λ x' v H10 s10 tx' hv _=>?_⟩⟩
    have hv:=hv rfl
    subst hv
    nofun
    rw [decide_eq_true (show flV none=V.non from rfl)]
    nofun
    refine ⟨aR (by simp),λ z hz=>?_⟩
    refine jx (n:=1) (jH (((HV H10).new hz) _ _ tx')) (jH aa) (by decide) ?_
    nofun
    exact ⟨((s8.trans s9).trans s10).new hz,_,_,rfl⟩
   | some j=>
    have td:H8 d=some (.tup [.str "refused",.int (j:Nat)]):=D8
    obtain ⟨hj,hlow,hdn⟩:=ho
    have hlow':∀ i,i<j->gY (L.getD i []):=λ i hi=>rn (hlow i hi)
    refine ⟨b,c,ls',pss',L,false,rfl,F8,by lia,hR,.inl ⟨j,hj,hlow',hdn,λ x H9 s9 tx=>?_⟩⟩
    obtain ⟨q1,q2⟩:=oJ tx (by lia)
    obtain ⟨q3,q4⟩:=oJ (s9 _ _ td) (by lia)
    nofun
    refine eR q1 (by decide) q2 ?_
    nofun
    refine eR q3 (by decide) q4 ?_
    refine k9 ?_
    rw [decide_eq_true rfl]
    nofun
    refine eR (hDm.same s9) (by decide) hDw ?_
    nofun
    refine k9 ?_
    rw [decide_eq_true rfl]
    nofun
    refine ⟨b,c,ls',pss',L,true,rfl,cE F8 s9,by lia,hR,.inl ⟨j,hj,hlow',hdn,λ x' H10 s10 tx'=>?_⟩⟩
    nofun
    rw [decide_eq_false (show ¬ flV (some j)=V.non from λ z=>nomatch z)]
    nofun
    refine jx (n:=1) (li tx') (li (s10 _ _ (s9 _ _ td))) (by decide) ?_
    nofun
    exact ⟨(s8.trans s9).trans s10,_,_,rfl⟩
  ·rintro σ H8 ⟨s8,v3,v4,rfl⟩
   nofun
   exact k _ (s07.trans s8)
noncomputable def qC (K:Ae):Sp:=λ vs H Q _=>∃ (a:Addr) (ns:List Int),vs=[.ref a]/\SqL K H a (ns.map HR)/\ns.length<=63/\∀ H',Q (.bl true) H'
theorem uA {H:Hp} (h:H a=some (.lst [])):LsF true H a [] [] []:=⟨h,rfl,rfl,λ i l ps rss a=>by simp at a⟩
theorem ww (T:Tx K mg t):FnOk P w K mg base CX0 9 t.uC t.uB ["_law_script"] (qC K):=by
 refine T.yC.okQ sc_law (λ vs H Q E h=>?_) (λ cdv A outer s H vs Q E hr h=>?_)
 ·obtain ⟨a,ns,rfl,_⟩:=h
  rfl
 ·obtain ⟨a,ns,rfl,hS,hlen,k⟩:=h
  refine ⟨_,(ag (cy A2 rfl (bM rfl T.cx (ao (aS eJ ai (ax (vJ rfl) (by rfl) T.qG wq (ao ai (ao (ax (bI (K:=K)) (by rfl) T.cP bJ (ao (qv 0) ac)) ac)))) ac)) (au (i:=1) sc_law.nd rfl (Av rfl)) (ag (aA (i:=2) sc_law.nd rfl (Av rfl) (av (ud T) (hr.mono (by decide)) rfl T.wD T.rA.kp T.wA aG (ao (qv 0) (ao (qv 1) ac))))
   (ag (aA (i:=3) sc_law.nd rfl (Av rfl) (av (fK T) (hr.mono (by decide)) rfl T.gO T.ee.kp T.gN aG (ao (qv 2) (ao (av (uf T) (hr.mono (by decide)) rfl T.wB T.rq.kp T.wy aG (ao (qv 2) (ao (qv 1) ac))) ac))))
   (ag (cq (QW.qt (mY (jn (gk (av (lj T) (hr.mono (by decide)) rfl T.o0 T.kc.kp T.oN aG (ao (qv 3) ac)))) (jo (jn (gk (av (lj T) (hr.mono (by decide)) rfl T.o0 T.kc.kp T.oN aG (ao (av (oH T) (hr.mono (by decide)) rfl T.qF T.ll.kp T.qE aG (ao (qv 2) (ao (qv 3) ac))) ac))))))) (am (aU jm)) bi)
   (am (cq (QW.qt (mY (az (gr (K:=K) hr.units0) (av (c6 T) (hr.mono (by decide)) rfl T.dD T.bQ.kp T.dy aG (ao (aT (ao (aT ac) (ao (aT ac) ac))) ac)) (aT ac) (aE _)) (jo (az (gr (K:=K) hr.units0) (av (c6 T) (hr.mono (by decide)) rfl T.dD T.bQ.kp T.dy aG (ao (aT ac) ac)) (aT ac) (aE _))))) (am (aU jm)) bi))))))
   (am (aU jm))),?_⟩
  rw [show L2.bc ["_law_script","_law_k","_law_tape_here","_law_lists"] [HU a]=[some (HU a),none,none,none] from rfl]
  nofun
  refine bt hS ?_
  nofun
  have hml:(FK HR ns).length=ns.length:=Af ..
  refine ⟨_,rfl,by (repeat' split)<;>lia,by (repeat' split)<;>lia,dc (λ i σ H'=>Same H H'/\∃ v1 v2 v3,σ=[some (HU a),v1,v2,v3]) ⟨HV _,_,_,_,rfl⟩ ?_ ?_⟩
  ·rintro i σ H' hi ⟨sm,v1,v2,v3,rfl⟩
   nofun
   refine ⟨a,ns,_,rfl,sm.seq hS,by lia,λ p H1 hp0 same T1=>?_⟩
   have hpn:H p=none:=sm.free hp0
   nofun
   refine ⟨p,_,rfl,T1,λ n H2 hn S2=>?_⟩
   nofun
   refine ⟨p,n,rfl,S2.tape,hn,λ a0 ls pss L w H3 ha0 ta0 hll hpl X hG hw hL hT S3=>?_⟩
   have a0p:a0≠p:=S2.tape.ne ha0
   have lsp:∀ l∈ls,l≠p:=λ l hl e=>by
    obtain ⟨j,hj,rfl⟩:=AS hl
    obtain ⟨u,_⟩:=X j _ (pss[j]'(by lia)) (L[j]'(by lia)) (Ac hj) (Ac _) (Ac _)
    obtain ⟨x,y,z,_⟩:=S3.tape
    rw [e,z] at u
    have:=HO.lst.inj (Ba u)
    generalize pss[j]'(by lia)=ps at this
    cases ps with
    | nil=>cases this
    | cons q qs=>cases this
   have hG':∀ r∈L,Good r w 10:=λ r hr=>(hG r hr).2
   have M3:Same H H3:=λ c u e=>S3.keep c u (S2.keep c u (same c u (sm c u e)) (ak e hpn)) (ak e hpn)
   nofun
   refine ⟨a0,ls,pss,L,w,rfl,ta0,hll,hpl,X,hG',hw,hL,hT,λ H4 s4=>?_⟩
   have T4:Tp2 H4 p:=by obtain ⟨x,y,z,u⟩:=S3.tape; exact ⟨x,y,s4 _ _ z,u⟩
   nofun
   refine ⟨p,a0,ls,pss,L,w,rfl,T4,a0p,lsp,s4 _ _ ta0,hll,hpl,bD X s4,hG',hL,hT,λ x ls' pss' L' H5 S5 tx h1 h2 X5 hG5 hL5 hT5=>?_⟩
   nofun
   refine ⟨x,ls',pss',L',w,rfl,tx,h1,h2,X5,hG5,hw,hL5,hT5,λ H6 s6=>?_⟩
   have M6:Same H H6:=λ c u e=>s6 _ _ (S5.keep c u (s4 _ _ (M3 c u e)) (ak e hpn))
   nofun
   refine ⟨aR (by simp),λ n1 hn1=>?_⟩
   have t1:(upd H6 n1 (.lst [])) n1=some (.lst []):=aa
   have s7:=(HV H6).new (o:=.lst []) hn1
   generalize upd H6 n1 (.lst [])=H7 at t1 s7
   nofun
   refine ⟨aR (by simp),λ n2 hn2=>?_⟩
   have t2:(upd H7 n2 (.lst [])) n2=some (.lst []):=aa
   have s8:=(HV H7).new (o:=.lst []) hn2
   generalize upd H7 n2 (.lst [])=H8 at t2 s8
   nofun
   refine ⟨aR (by simp),λ n3 hn3=>?_⟩
   have t3:(upd H8 n3 (.lst [HU n1,HU n2])) n3=some (.lst [HU n1,HU n2]):=aa
   have s9:=(HV H8).new (o:=.lst [HU n1,HU n2]) hn3
   generalize upd H8 n3 (.lst [HU n1,HU n2])=H9 at t3 s9
   have F9:LsF true H9 n3 [n1,n2] [[],[]] [[],[]]:=⟨t3,rfl,rfl,λ i l ps rss a b c=>by
    match i,a,b,c with
    | 0,a,b,c=>cases a; cases b; cases c; exact ⟨s9 _ _ (s8 _ _ t1),rfl,λ i p r h=>by simp at h⟩
    | 1,a,b,c=>cases a; cases b; cases c; exact ⟨s9 _ _ t2,rfl,λ i p r h=>by simp at h⟩⟩
   have M9:=M6.trans (s7.trans (s8.trans s9))
   nofun
   refine ⟨true,n3,_,_,[[],[]],[],rfl,F9,by decide,(λ r hr=>by
    have:r=[]:=by simpa using hr
    subst this
    exact ⟨Cc,by decide⟩),(by exact B5 _),Cc,by decide,λ r ts HA sA hr tr D=>?_⟩
   have:ts=[]:=Bm.mp D.1
   subst this
   nofun
   refine ⟨aR (by simp),λ em hem=>?_⟩
   have sB:=(HV HA).new (o:=.lst []) hem
   have tem:(upd HA em (.lst [])) em=some (.lst []):=aa
   generalize upd HA em (.lst [])=HB at sB tem
   nofun
   refine ⟨r,em,[],rfl,rfl,HN (sB _ _ tr),HN tem,?_⟩
   rw [decide_eq_true rfl]
   nofun
   refine ⟨aR (by simp),λ n4 hn4=>?_⟩
   have sC:=(HV HB).new (o:=.lst []) hn4
   have t4:(upd HB n4 (.lst [])) n4=some (.lst []):=aa
   generalize upd HB n4 (.lst [])=HC at sC t4
   nofun
   refine ⟨true,n4,_,_,[],[],rfl,uA t4,by decide,(λ r hr=>nomatch hr),(by exact B5 _),Cc,by decide,λ r2 ts2 HD sD hr2 tr2 D2=>?_⟩
   have:ts2=[]:=Bm.mp D2.1
   subst this
   nofun
   refine ⟨aR (by simp),λ em2 hem2=>?_⟩
   have sE:=(HV HD).new (o:=.lst []) hem2
   have tem2:(upd HD em2 (.lst [])) em2=some (.lst []):=aa
   generalize upd HD em2 (.lst [])=HE at sE tem2
   nofun
   refine ⟨r2,em2,[],rfl,rfl,HN (sE _ _ tr2),HN tem2,?_⟩
   rw [decide_eq_true rfl]
   nofun
   exact ⟨M9.trans (sA.trans (sB.trans (sC.trans (sD.trans sE)))),_,_,_,rfl⟩
  ·rintro σ H' ⟨sm,v1,v2,v3,rfl⟩
   nofun
   exact k _
end
theorem qD {α:Type} {P:List α->Prop} (h:∀ x0:α,P [x0]):∀ us:List α,us.length=1->P us
 | [x0],_=>h x0
theorem pb {α:Type} {P:List α->Prop} (h:∀ x0 x1:α,P [x0,x1]):∀ us:List α,us.length=2->P us
 | [x0,x1],_=>h x0 x1
theorem zT {α:Type} {P:List α->Prop} (h:∀ x0 x1 x2:α,P [x0,x1,x2]):∀ us:List α,us.length=3->P us
 | [x0,x1,x2],_=>h x0 x1 x2
theorem wx {l:Ej} {w:World} {K:Ae} {mg:Str->Option Value} {fa f0 f1 f2 f3 f4 f5 f6 f7 f8 f9 f10 f11 f12 f13 f14 f15 f16 f17 f18 f19 aK bq af ae bG aL:Addr} {d0 d1 d2 d3 d4 d5 d6 d7 d8 d9 d10 d11 d12 d13 d14 d15 d16 d17 d18:FuncData} (X:K.In h) (G:h.Ns mainGlobals mg) (hfa:mg "law" = some (.ref fa))
  (a0:AI K (.ref ae) "__init__" = some (some (.ref f0))) (i0:Co K (.ref f0)=true) (F0:Fun K "__init__" "NotRising.__init__" bu f0 d0)
  (a1:AE K mainGlobals "runs" = some (some (.ref f1))) (F1:Fun K "runs" "runs" oj f1 d1)
  (a2:AE K mainGlobals "check_rising" = some (some (.ref f2))) (F2:Fun K "check_rising" "check_rising" c5 f2 d2)
  (a3:AE K mainGlobals "place_among" = some (some (.ref f3))) (F3:Fun K "place_among" "place_among" du f3 d3)
  (a4:AI K (.ref af) "__init__" = some (some (.ref f4))) (i4:Co K (.ref f4)=true) (F4:Fun K "__init__" "Merge.__init__" cu f4 d4)
  (a5:AI K (.ref af) "show_head" = some (some (.ref f5))) (i5:Co K (.ref f5)=true) (F5:Fun K "show_head" "Merge.show_head" bT f5 d5)
  (a6:AI K (.ref af) "next" = some (some (.ref f6))) (i6:Co K (.ref f6)=true) (F6:Fun K "next" "Merge.next" dW f6 d6)
  (a7:AI K (.ref af) "left" = some (some (.ref f7))) (i7:Co K (.ref f7)=true) (F7:Fun K "left" "Merge.left" fE f7 d7)
  (a8:AE K mainGlobals "many_merged" = some (some (.ref f8))) (F8:Fun K "many_merged" "many_merged" dv f8 d8)
  (a9:AE K mainGlobals "_law_tape" = some (some (.ref f9))) (F9:Fun K "_law_tape" "_law_tape" ol f9 d9)
  (a10:AE K mainGlobals "_law_draw" = some (some (.ref f10))) (F10:Fun K "_law_draw" "_law_draw" om f10 d10)
  (a11:AE K mainGlobals "_law_many" = some (some (.ref f11))) (F11:Fun K "_law_many" "_law_many" on f11 d11)
  (a12:AE K mainGlobals "_law_rows" = some (some (.ref f12))) (F12:Fun K "_law_rows" "_law_rows" oo f12 d12)
  (a13:AE K mainGlobals "_law_lists_of_rows" = some (some (.ref f13))) (F13:Fun K "_law_lists_of_rows" "_law_lists_of_rows" cM f13 d13)
  (a14:AE K mainGlobals "_law_merged_due" = some (some (.ref f14))) (F14:Fun K "_law_merged_due" "_law_merged_due" dX f14 d14)
  (a15:AE K mainGlobals "_law_asked" = some (some (.ref f15))) (F15:Fun K "_law_asked" "_law_asked" j7 f15 d15)
  (a16:AE K mainGlobals "_law_first_fault" = some (some (.ref f16))) (F16:Fun K "_law_first_fault" "_law_first_fault" dw f16 d16)
  (a17:AE K mainGlobals "_law_turned" = some (some (.ref f17))) (F17:Fun K "_law_turned" "_law_turned" iO f17 d17)
  (a18:AE K mainGlobals "_law_right" = some (some (.ref f18))) (F18:Fun K "_law_right" "_law_right" j8 f18 d18)
  (a19:AE K mainGlobals "law" = some (some (.ref f19)))
  {oc19 kV19 dc19 pm19 cd19 ct19:Value} {od19 an19:Option Addr} {sl19:Array (Option Value)}
  (l19:K.lookup f19=some ⟨oc19,od19,.func (CG "law" "law" (gf l8) (cZ l8) (ap l8) .none kV19 dc19 pm19 an19 cd19 ct19),sl19⟩) (c19:Dz K cd19 "law" = true) (k19:Bv K (.ref f19)=true)
  (cX:AE K mainGlobals "ValueError" = some none)
  (o8:AE K mainGlobals "abs" = some none)
  (lq:AE K mainGlobals "bool" = some none)
  (aM:AE K mainGlobals "enumerate" = some none)
  (me:AE K mainGlobals "int" = some none)
  (bj:AE K mainGlobals "isinstance" = some none)
  (cP:AE K mainGlobals "len" = some none)
  (lu:AE K mainGlobals "list" = some none)
  (qG:AE K mainGlobals "min" = some none)
  (cx:AE K mainGlobals "range" = some none)
  (fi:AE K mainGlobals "sorted" = some none)
  (km:AE K mainGlobals "str" = some none)
  (bW:AE K mainGlobals "tuple" = some none)
  (uD:AE K mainGlobals "zip" = some none)
  (ac_BadOrder:AE K mainGlobals "BadOrder" = some (some (.ref aK))) (ac_BadRow:AE K mainGlobals "BadRow" = some (some (.ref bq))) (ac_Merge:AE K mainGlobals "Merge" = some (some (.ref af))) (ac_NotRising:AE K mainGlobals "NotRising" = some (some (.ref ae))) (ac_SortError:AE K mainGlobals "SortError" = some (some (.ref bG))) (ac_TooGreat:AE K mainGlobals "TooGreat" = some (some (.ref aL)))
  (g1:AI K (.ref ae) "__getattribute__" = some (some (.builtin "BaseException.__getattribute__")))
  (g2:AI K (.ref ae) "__class__" = some (some (.builtin "object.__class__")))
  (g3:AI K (.ref ae) "__getattr__" = some none)
  (g4:De K ae (.type "BaseException")=some true)
  (g5:De K ae (.type "object")=some true)
  (g6:(DQ K ae).isSome=true)
  (g7:EF K (.ref ae) (.ref bG)=some true)
  (g8:Gj K (.ref ae) [.ref aK,.ref bq,.ref aL]=some false)
  (g9:BH K (.ref ae) (.ref ae)=some true)
  (ga:BH K (.ref ae) (.type "ValueError")=some true)
  (gb:Cb K ae=true)
  (pg_Merge:CL K af Hr=true)
  (hd_Merge:Cb K af=true)
  (po_Merge:DS K af=true)
  (sa_Merge:AI K (.ref af) "__setattr__" = some (some (.builtin "object.__setattr__")))
  (mk_Merge:Eh K af=true)
  (kc_Merge:Bv K (.ref af)=true)
  (br:AI K (.ref af) "lists" = some none)
  (aX:AI K (.ref af) "marks" = some none)
  (aH:AI K (.ref af) "heads" = some none)
  (ow_NotRising:HT.t8 K ae veB "ValueError.__new__" f0=true)
  (ck:Bv K (.ref ae)=true)
  (sa_NotRising:AI K (.ref ae) "__setattr__" = some (some (.builtin "object.__setattr__")))
  (ov_NotRising:(DQ K ae).any (λ cd=>HT.gI cd.mro)=true)
  (hd_NotRising:(DQ K ae).any (·.hasDict)=true)
  (n_NotRising_place:AI K (.ref ae) "place" = some none)
  (cW:HT.t9 K bG=true) :
  ∃ fd:FuncData,(∀ (s:Shared) (v:Value),BindsTo s fd ⟨[v],[]⟩ [("_law_script",v)])/\∀ base:Heap,K.In base->base.Ns mainGlobals mg->FnOk l.prog w K mg base CX0 9 fa fd ["_law_script"] (qC K):=by
 have e:=hfa.symm.trans (AY X G a19)
 cases e
 have b0:=F0.binds (ps:=["self","place"]) λ _ _ _ _ _ _=>pb (λ _ _=>rfl)
 have b1:=F1.binds (ps:=["rows"]) λ _ _ _ _ _ _=>qD (λ _=>rfl)
 have b2:=F2.binds (ps:=["lists"]) λ _ _ _ _ _ _=>qD (λ _=>rfl)
 have b3:=F3.binds (ps:=["heads","head"]) λ _ _ _ _ _ _=>pb (λ _ _=>rfl)
 have b4:=F4.binds (ps:=["self","lists"]) λ _ _ _ _ _ _=>pb (λ _ _=>rfl)
 have b5:=F5.binds (ps:=["self","number"]) λ _ _ _ _ _ _=>pb (λ _ _=>rfl)
 have b6:=F6.binds (ps:=["self"]) λ _ _ _ _ _ _=>qD (λ _=>rfl)
 have b7:=F7.binds (ps:=["self"]) λ _ _ _ _ _ _=>qD (λ _=>rfl)
 have b8:=F8.binds (ps:=["lists"]) λ _ _ _ _ _ _=>qD (λ _=>rfl)
 have b9:=F9.binds (ps:=["_law_script","_law_k"]) λ _ _ _ _ _ _=>pb (λ _ _=>rfl)
 have b10:=F10.binds (ps:=["_law_tape_here","_law_many_here"]) λ _ _ _ _ _ _=>pb (λ _ _=>rfl)
 have b11:=F11.binds (ps:=["_law_tape_here","_law_k"]) λ _ _ _ _ _ _=>pb (λ _ _=>rfl)
 have b12:=F12.binds (ps:=["_law_tape_here","_law_many_here","_law_base"]) λ _ _ _ _ _ _=>zT (λ _ _ _=>rfl)
 have b13:=F13.binds (ps:=["_law_tape_here","_law_many_here"]) λ _ _ _ _ _ _=>pb (λ _ _=>rfl)
 have b14:=F14.binds (ps:=["_law_lists"]) λ _ _ _ _ _ _=>qD (λ _=>rfl)
 have b15:=F15.binds (ps:=["_law_lists","_law_by_class"]) λ _ _ _ _ _ _=>pb (λ _ _=>rfl)
 have b16:=F16.binds (ps:=["_law_lists"]) λ _ _ _ _ _ _=>qD (λ _=>rfl)
 have b17:=F17.binds (ps:=["_law_tape_here","_law_lists"]) λ _ _ _ _ _ _=>pb (λ _ _=>rfl)
 have b18:=F18.binds (ps:=["_law_lists"]) λ _ _ _ _ _ _=>qD (λ _=>rfl)
 have F19:=qQ (st:=l8) l19 c19 k19
 have b19:=F19.binds (ps:=["_law_script"]) λ _ _ _ _ _ _=>qD (λ _=>rfl)
 have T:Tx K mg ⟨_,_,_,_,_,_,_,_,_,_,_,_,_,_,_,_,_,_,_,_,_,_,_,_,_,_,_,_,_,_,_,_,_,_,_,_,_,_,_,_,_,_,_,_,_,_⟩:=⟨HT.wl ow_NotRising i0,F0,b0,AY X G a1,F1,b1,AY X G a2,F2,b2,AY X G a3,F3,b3,⟨mk_Merge,a4,i4,kc_Merge⟩,F4,b4,⟨a5,i5,F5.kp⟩,F5,b5,⟨a6,i6,F6.kp⟩,F6,b6,⟨a7,i7,F7.kp⟩,F7,b7,AY X G a8,F8,b8,AY X G a9,F9,b9,AY X G a10,F10,b10,AY X G a11,F11,b11,AY X G a12,F12,b12,AY X G a13,F13,b13,AY X G a14,F14,b14,AY X G a15,F15,b15,AY X G a16,F16,b16,AY X G a17,F17,b17,AY X G a18,F18,b18,AY X G a19,F19,b19,A6 X G cX,A6 X G o8,A6 X G lq,A6 X G aM,A6 X G me,A6 X G bj,A6 X G cP,A6 X G lu,A6 X G qG,A6 X G cx,A6 X G fi,A6 X G km,A6 X G bW,A6 X G uD,AY X G ac_BadOrder,AY X G ac_BadRow,AY X G ac_Merge,AY X G ac_NotRising,AY X G ac_SortError,AY X G ac_TooGreat,g1,g2,g3,g4,g5,g6,g7,g8,g9,ga,gb,⟨pg_Merge,hd_Merge,po_Merge,sa_Merge⟩,br,aX,aH,ck,⟨sa_NotRising,ov_NotRising,n_NotRising_place,hd_NotRising⟩,HT.wn cW⟩
 exact ⟨_,λ s v=>.of_eq rfl,λ base _ _=>ww T⟩
theorem wR {l:Ej} {q:Program} {loose:List Str} {XP:(Str->Option Value)->Heap->Prop} {YP:World->Heap->Prop} {d:DefRec} {K:Params->Ae} (hn:l.most=some 63) (hdf:d.params.defaults=[])
  (hY:∀ (w:World) (h:Heap),YP w h->(K w.params).In h)
  (F:∀ (w:World) (mg:Str->Option Value) (fa:Addr) (h:Heap),(K w.params).In h->h.Ns mainGlobals mg->mg d.name=some (.ref fa)->
   ∃ fd:FuncData,(∀ (s:Shared) (u:Value),BindsTo s fd ⟨[u],[]⟩ [("_law_script",u)])/\∀ base:Heap,(K w.params).In base->base.Ns mainGlobals mg->FnOk l.prog w (K w.params) mg base CX0 9 fa fd ["_law_script"] (qC (K w.params))) :
  Gq q loose XP YP l.row.toRowW d [] (λ f vs=>FQ f vs):=
 L2.sM (n:=63) (k:=9) (x:="_law_script") (CX:=λ _=>CX0) (sp:=λ w=>qC (K w.params)) hn (by decide) hdf ⟨rfl,by decide,by decide,rfl⟩ hY F (λ _ _ a ns hl _ hS=>⟨a,ns,rfl,hS,hl,λ _=>rfl⟩) λ _ _ _ _ _ z=>z
end Fs
open PySem PySem.W PyProof.Rows
set_option maxRecDepth 100000 in
set_option maxHeartbeats 0 in
theorem PySem.Challenge.cw_figuresort_k44_many_lists_merged_holds : PySem.Challenge.rw_figuresort_k44_many_lists_merged.Holds := by
 w_on; refine holds_law Fs.wZ λ said=>?_
 refine holds_open (q:=Fs.vwF) (loose:=Fs.loF) (Xt:=Fs.xtF) (XP:=XL Fs.vwF []) (YP:=Hook.says Fs.lv) Fs.wY (Hook.of Fs.lv) (Hook.keeps Fs.lv) (λ s e=>xl_of s (EN.mp e).1) XL.keeps (by rfl) (by rfl) (by rfl) (λ s e=>recFacts_of (EN.mp e).2) (by rfl) said (by decide +kernel) ⟨rfl,rfl,rfl,rfl,rfl,by decide +kernel⟩ ?hw ?hc
 (case hw=>w_witness2)
 delta Fs.lv
 k_fill
 refine Fs.wR (l:=A4) rfl rfl (λ w h Y=>PySem.W.kIn_of Y) ?F
 case F=>
  intro w mg fa h KX G hmg
  refine' Fs.wx KX G hmg ?a0 ?i0 ?F0 ?a1 ?F1 ?a2 ?F2 ?a3 ?F3 ?a4 ?i4 ?F4 ?a5 ?i5 ?F5 ?a6 ?i6 ?F6 ?a7 ?i7 ?F7 ?a8 ?F8 ?a9 ?F9 ?a10 ?F10 ?a11 ?F11 ?a12 ?F12 ?a13 ?F13 ?a14 ?F14 ?a15 ?F15 ?a16 ?F16 ?a17 ?F17 ?a18 ?F18 ?a19 ?l19 ?c19 ?k19 ?cX ?o8 ?lq ?aM ?me ?bj ?cP ?lu ?qG ?cx ?fi ?km ?bW ?uD ?ac_BadOrder ?ac_BadRow ?ac_Merge ?ac_NotRising ?ac_SortError ?ac_TooGreat ?g1 ?g2 ?g3 ?g4 ?g5 ?g6 ?g7 ?g8 ?g9 ?ga ?gb ?pg_Merge ?hd_Merge ?po_Merge ?sa_Merge ?mk_Merge ?kc_Merge ?br ?aX ?aH ?ow_NotRising ?ck ?sa_NotRising ?ov_NotRising ?hd_NotRising ?n_NotRising_place ?cW
  iterate 2 all_goals (first | k_is | exact L2.qQ (by k_is) (by k_is) (by k_is) | skip)
  all_goals kernel_rfl
