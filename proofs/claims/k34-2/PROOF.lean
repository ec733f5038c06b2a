import PyProof.Rows.All
import Wide.All
import OpenK.AllK
import Wide.FinOn
import Lean
import PyProof.EqAt
import PyProof.EqKinds
import PyProof.TupleCall
import PySem.Challenge.RW_figuresort_k34_sorted_by_heaps
set_option compiler.extract_closed false
local macro_rules
 | `(tactic|lia)=>`(tactic|first | lia (config:={}) | omega)
open List renaming getElem?_eq_getElem→C4,getD_eq_getElem?_getD→C5,length_map→C6,range→C9,take_of_length_le→Da,getElem?_map→De,length_take→Df,length_append→Dg,mem_append_right→Dj,mem_singleton→Dk,getElem_mem→Dl,size_toArray→Dm,getElem?_append_left→Do,pairwise_append→Dq,map_append→Dr,mem_cons→Dx,getElem?_append_right→Dy,take_add_one→Dz,toArray→DA,replicate→DC,length_cons→DD,mem_cons_of_mem→DE,mem_cons_self→DF,mem_append→DG,append_assoc→DH,pairwise_iff_getElem→DK,mem_of_mem_take→DL,mem_map→DM,mem_range→DN,mem_of_mem_drop→DO,take_append_drop→DP,getElem?_eq_some_iff→DQ,length_range→DR,range'→DS,length_drop→DU,Nodup→DW,drop_zero→DZ,mem_append_left→D3,getElem?_take_of_lt→D6,getElem?_eq_none→Ea,not_mem_nil→Ed,mem_filter→Ee,append_nil→Ef,getElem?_range→Eg,getElem_of_mem→Eh,mem_of_getElem?→Ek,pairwise_cons→Em,length_eq_zero_iff→Eo,map_congr_left→Ep,map_cons→Er,sum_cons→Es,length_set→Ew,extract_eq_drop_take→Ez,getElem?_drop→EA,map_map→EB,getElem?_set_self→EH,drop_eq_getElem_cons→EJ,sum_append→ER,filter_append→ES,mem_reverse→ET,set→EU,flatten_cons→EX,length_nil→E6,lookup→E9,getElem_map→Fb,take_succ_eq_append_getElem→Fc,count_append→Fj,pairwise_map→Fk,map_take→Fn,map_drop→Fo,countP_eq_zero→Ft,ext_getElem→Fv,filter_eq_nil_iff→Fx,nodup_cons→FA,take_sublist→FC,mem_range'_1→FG,getElem?_set_ne→FJ,getElem?_of_mem→FL,filter_cons→FU,replicate_succ→FV,length_reverse→FW,pairwise_singleton→Ga,nil_append→Ge,getElem_range→Gg,take_append_of_le_length→Gk,eq_nil_of_length_eq_zero→Gm,ext_getElem?→Gn,getElem_drop→Gp,getElem_take→Gq,length_singleton→Gw,take_succ_cons→GA,length_pos_iff→GB,count_eq_zero→GG,getElem_append_left→GH,getElem?_replicate→GK,drop_sublist→GN,pairwise_lt_range→GQ,nodup_range→GT,perm_middle→GU,any_eq_true→GW,flatten_replicate_singleton→GX,countP_eq_length→GY,length_filter_le→G0,eraseIdx_eq_take_drop_succ→G1,range_eq_range'→G8,drop_append_of_le_length→G9,filterMap_cons→Ha,filter_reverse→Hd,drop_drop→Hh,countP_eq_length_filter→Hj,dropLast_concat_getLast→Hk,zip_cons_cons→Hr,filterMap_map→Hs,set_cons_zero→Hz,all_cons→HU,nodup_iff_pairwise_ne→HV,perm_ext_iff_of_nodup→Ib,getElem?_set→Ii,countP_cons→IF,map_reverse→IH,getElem?_cons_succ→IN,of_mem_zip→IR,filter_nil→IU,drop_eq_nil_of_le→IZ,length_replicate→Ja,countP_le_length→Jc,pairwise_reverse→Je,getElem?_reverse→Jf,eq_nil_or_concat→Jg,perm_append_comm→Jh,take_zero→Ji,perm_cons_erase→Jp,mem_erase_of_ne→Jq,range'_append_1→Jr,count_cons_self→Js,length_eraseIdx→Jt,filterMap_some→JA,drop_succ_cons→JB,mem_filterMap→JE,zip_nil_right→JH,set_cons_succ→JM,map_id'→JP,zip_nil_left→JU,reverse_cons→JV,mapM_toArray→J0,nodup_append→J8,foldl_append→Kb,lookup_cons→Km,all_eq_true→Kn,sum_reverse→Kp,drop_append→Kr,map→Ks,foldl→Kv,foldl_cons→Kw,count→KC,filter_map→KE,nodup_nil→KN,getD→KW,map_nil→LI,set_set→LS,length→L7
open PySem.W renaming Frag→C7,nsIn→DJ,findIn→DV,mg_of→DY,mg_none_of→En,kia_one→EQ,emptyDict→EW,isFn→EY,keepIn→Fd,instObj→Fh,kia_tup→Gh,kitOne→Gs,fnOf→Gu,plainGet→Gx,hasDictIn→GM,plainGet_of→Hb,lookIn→Hf,codeIn→Hg,callWith_K→Hq,methodObj→Ic,plainOver→Ie,kitx_list→Ig,takerIn→IP,makesIn→IQ,OpenLaw→IS,cellsFrom_some→IV,methodCall_KW→I0,kitx_tuple→JF,kitx_none→JR,kitx_bool→JS,kitx_dict→JT,handedIn→Kg,kitx_int→Kh,kitx_str→Ki,WalkO→K0
open Nat renaming le_refl→C8,lt_of_lt_of_le→Ds,zero_le→Du,ne_of_lt→Dw,le_trans→D9,lt_or_ge→El,lt_of_le_of_lt→EE,not_lt_zero→EF,zero_add→EG,lt_trichotomy→EL,lt_irrefl→EM,le_of_lt→EN,le_of_eq→EZ,min_eq_left→E7,ne_of_gt→E8,eq_or_lt_of_le→Ff,eq_zero_or_pos→Fg,lt_succ_self→Fu,lt_succ_of_lt→FI,le_succ→FO,add_zero→FS,sub_self→FT,add_assoc→Gc,le_add_right→Gy,succ_le_succ→GS,sub_zero→G6,mul_le_mul_left→Hc,log2_lt→Hl,pow_pos→Hm,lt_or_gt_of_ne→Hy,succ_mul→IA,add_comm→IB,lt_trans→IG,not_le_of_lt→II,add_sub_cancel_left→IM,le_of_not_lt→Kl,succ_ne_self→Ko,mul_le_mul→KS,mul_comm→LJ,pow_succ→LO,mul_add→Mb,mod_lt→Mh
open Prod renaming fst→Dc,snd→LR
open PySem.Heap renaming get?_push_of_some→Dd,lt_size→Dp,get?_push_size→DB,get?_push_ne→FH,get?_update_other→Gi,SameBut→Gr,get?_update_self→Gv,size_update→Gz,size_push→GJ,ExtBut→IW,get?_update_ne→Jz
open Bool renaming false_eq_true→Dh,false_ne_true→Dt,and_eq_true→Ey,not_true→Gb,eq_iff_iff→G4,not_eq_true'→Ij,and_false→Jb,and_eq_true_iff→Jv,eq_false_iff→JZ,false_and→KI,or_false→KZ,false_or→K9,true_or→LL
open Or renaming inl→Di,inr→FE
open True renaming intro→Dv
open Array renaming getD→DI,length_toList→DT,toList_append→Ec,getElem?_toList→EO,toList_inj→E2,toList_extract→E5,getD_eq_getD_getElem?→Fy,toList_push→FF,getElem?_eq_none→Gj,toList_map→GV,size_map→Hi,perm_iff_toList_perm→H0,map_extract→Ik,mem_toList_iff→Jm,toList_modify→Jy,ext_getElem?→JK,map_append→Kq,map_push→KM,toList→Lp
open Ne renaming symm→DX
open List.Perm renaming refl→D0,trans→Fi,append_left→FB,append_right→IX,of_eq→KH,cons→MK
open PySem.PassesOwn renaming never→D4
open PySem.Value renaming ref→D5,none→D8,type→EK,int→Hn,bool→Io,str→JC,float→Kc,isInt→LW,bytes→LX
open Option.some renaming inj→D7,injEq→MA
open Int renaming toNat_natCast→Eb,natAbs_natCast→Gf,emod_nonneg→GD,toNat_of_nonneg→He,eq_ofNat_of_zero_le→IJ,mul_nonneg→KR,ediv_one→LH,mul_one→L4,toNat→Mu
open PySem.Challenge renaming rw_figuresort_k34_sorted_by_heaps→Ei,pw_figuresort_k34_sorted_by_heaps→Ej
open PyProof.Rows renaming callWith_type1→Et,slot_tuple_getitem→ED,callWith_builtin1→Ku,lt_int→Mi
open PySem.Obj renaming mapSeq→Eu,putSet→KG
open PySem.PyData renaming weightAll→EC,leavesShort→Fe,weight→Fp,showable→IT,leavesShortAll→Jd,int→Ju,showableAll→JJ,tuple→JQ,hasDictAll→JY,canLayAll0→J9,depthAll→KD,canLay0→KO
open Option renaming map_eq_some_iff→EI,isSome_iff_exists→GE,getD_none→Iz,map_some→Kz,toList→Lc,none→Ma
open PySem.Str renaming ofString→EV,empty→Mp
open PySem.Builtin.List renaming listTooLong→E1,listSameRef→FR,listSubscript?→Hu,listLengthHint→HL,listExtendWith→HM,listAllItems→Ip,listItems→L9
open PySem.F renaming called_set→E3,plainAttrs_list→FZ,args_tuple_add_2→GF,entry_tuple_add→GL,slot_tuple_add→GO,plain_extend_loop→Ir,slot_list_extend→ID,type_list_extend→IE,plain_list_iadd→IL,slot_tuple_lt→Jj,plain_set_new→Jk,slot_set_iter→Jl,args_list_extend_2→Jo,entry_list_extend→Jw,slot_list_extend→JI,slot_int_rmul→Kx
open PyProof.Rows.SortSt renaming mk'→E4
open False renaming elim→Fa
open PySem renaming mem_of_lookup→Fq,Builtin→Ia,Within→JD,Fin→JL,call→Ky,Slot→Mg
open PySem.SetTable renaming below→Fw,grown→FP,sizeAbove→HH,insertAt→Il,Probe→KP,fits_plain_off→LU,orStandIn→Mt,freeSlot→MB,layClean→MD,advance→MI,relaid→MJ,slot→ML,laid→MM,fits→MN
open PyProof.Rows.F renaming plain_set_update_loop→Fz,entry_set_update_loop→GI
open PySem.Builtin.Slice renaming slicePlaces→FK,sliceAdjust→GC,sliceApplied→HQ,slicePartIndex→KJ,sliceFields→Ln
open Classical renaming byContradiction→FM,propDecidable→LV,em→MP
open PySem.Around renaming under_plainId→FN,under→Iw
open PySem.Builtin.Tuple renaming tupleExact→FQ,tupleItemsOf→HR,tupleCompareSizes→Kt
open PySem.Heap.SameBut renaming update→FX,trans→JO,refl→JX,extBut→Mj
open PySem.Builtin.Range renaming rangeSize→FY,small→Jx,rangeFitsLong→KU
open PySem.Calls renaming callWith_builtin→GP,spliced_cons→Ho,Name_function_global→HN,spliced_nil→Ih,call_function_entry→Iq,evalArgs_plain→Jn
open PySem.Shared renaming TypeIs→GR
open List.Pairwise renaming and_mem→GZ,nil→JW,imp_of_mem→LN
open PySem.AutoSeq1 renaming wpAny_loadPart'→G7,sub_tuple_tuple→Iy,list_extend_list_list_0→Kj
open PySem.Heap.IsSliceOf renaming new→Ht
open PySem.W.KFB renaming if_not→Hv,if_so→Mz
open PySem.SetTable.probe renaming go→Im
open Sum renaming inl→Iu,inr→Iv
open PyProof renaming noPylong_of_log2→IC
open PySem.Builtin.Frozenset renaming slot0→IK,updateFrom→KQ,newClass→Lb,sizeOf→LQ
open ForIn renaming forIn→IY
open PySem.Code renaming isFrame→JG,isGuard→LG,frames→L6
open PySem.pickOrder renaming go→JN
open PySem.SetTable.below renaming go→Ka
open PySem.IsRange renaming new→Kd
open PySem.AutoListH renaming list___mul___list_int_3→Ke
open PySem.IsL renaming isList→Kk,update→MG
open Array.Perm renaming refl→KF
open MonadState renaming get→KL
open PyProof.Rows.IsTup renaming new→KT
open PySem.Paired renaming length→KY
open PySem.SeqAt.RcNeAt renaming lists_lengths→La,lists→Mr
open PySem.EqNone renaming eq_none_none→Ld,eq_none_bool→Le,eq_bool_none→Lf,ne_none_none→Li,ne_none_bool→Lj,ne_bool_none→Lk,eq_none_int→Lq,eq_none_str→Lr,eq_int_none→Ls,eq_str_none→Lv,ne_none_int→Ly,ne_none_str→Lz,ne_int_none→LA,ne_str_none→LD
open PySem.EqMixed renaming eq_bool_str→Lg,eq_str_bool→Lh,ne_bool_str→Ll,ne_str_bool→Lm,eq_int_str→Lu,eq_str_int→Lx,ne_int_str→LC,ne_str_int→LF
open PySem.W.OpenLaw renaming wellSaid→Lo
open PySem.Data renaming seq→LM,fields→LY,cell→Mn
open PySem.SeqAt renaming rcNeAt_reads→LP,eqv_refl→Mf
open PySem.Walks renaming range→LZ
open PySem.MeetsSeq renaming list_pop_last→L8
open List.Sublist renaming count_le→Mc
open PySem.W.RowW renaming records→Md
open PySem.Draws renaming list→Me
open PySem.SeqAt.EqAt renaming int_str→Ml,str_int→Mm,int_int→Mq
open PySem.W.Looks renaming here→Mo
open Pure renaming pure→Ms
open Lean.Name renaming mkSimple→Mw
open PySem.Within renaming cons→Mx
open PySem.Heap.Ns1 renaming of_empty→My
open PySem.Heap.ExtBut renaming trans→ME
open PySem.DictEntry renaming refKey→MF
open MonadStateOf renaming set→MH
open Int.ofNat renaming inj→MO
set_option Elab.async false
set_option maxRecDepth 100000
set_option maxHeartbeats 0
namespace Fs
open PySem PySem.Spec PyProof.Rows
local macro_rules
 | `(tactic| o_head $_)=>`(tactic| assumption)
open PySem PySem.W PyProof.Rows in
theorem Kf (h:Ei.row.Holds):Ei.row.Holds:=by
 w_on; k_head
open PySem PySem.W PyProof.Rows in
def asF:List Addr:=[2,3,15,17,18,20,21,22,24,25,27,28,29,31,32,34,35,36,39,40,41,43,44,46,47,48,51,52,53,56,57,58,60,61,63,64,72,75,76,77,79,80,82,83,84,86,87,89,90,91,93,94,96,97,98,100,101,103,104,105,107,108,110,111,112,115,116,117,119,120,122,123,124,126,127,129,130,131,132,133,134,135,138,140,141,143,144,145,148,149,150,152,153,155,156,157,159,160,162,163,164,166,167,169,170,171,173,174,176,177,178,181,182,183,186,187,188,190,191,193,194,195,197,198,200,201,202,205,206,207,210,211,212,215,216,217,220,221]
open PySem PySem.W PyProof.Rows in
@[reducible] noncomputable def oP:Hook:=kHook Kf.heap_1 asF (λ _=>by kernel_rfl)
def Cs (i:Nat):Stmt:=Ej.main.body.getD i (.Pass ⟨0,0,0,0⟩)
def vwF:Program:={ Ej with main:={ Ej.main with body:=[1,2,3,4,5,7,8,10,12,13,14,16,17,18,19,20,21,22,23,24,25,26,27].map Cs } }
def loF:List PySem.Str:=[]
def xtF (s:Shared):Bool:=PySem.W.xlAt vwF [] s && PySem.W.recOk (Md Ei.row.toRowW) s
open PySem.W in
theorem AL:LeftO Ej vwF loF xtF (Hook.obs oP) (Hook.val oP) 2464:=by intro w; kernel_rfl
theorem AM:Lo Ei=true:=by kernel_rfl
end Fs
set_option compiler.extract_closed false
set_option Elab.async false
set_option linter.all false
set_option maxRecDepth 100000
namespace L2
open PySem PySem.Spec PyProof.Rows
noncomputable abbrev Key:=Sum Int Str
noncomputable def yz:Key->Value->Bool
 | .inl k,v=>LW k v
 | .inr x,v=>Value.isStrOf x v
noncomputable def Ct (w:World):Key->Int
 | .inl k=>hashInt k
 | .inr x=>hashStr w x
theorem bi:∀ {k:Key} {v:Value},yz k v=true->(∃ i t,k=Iu i/\v=Hn i t)\/(∃ x t,k=Iv x/\v=JC x t)
 | .inl i,v,h=>by
  obtain ⟨t,e⟩:=Value.isInt_shape (k:=i) (v:=v) h
  exact .inl ⟨i,t,rfl,e⟩
 | .inr x,v,h=>by
  obtain ⟨t,e⟩:=Value.isStrOf_shape (x:=x) (v:=v) h
  exact .inr ⟨x,t,rfl,e⟩
theorem yA (a b:Int):decide ((Iu a:Key)=Iu b)=(a == b):=by
 by_cases e:a=b
 ·subst e; simp
 ·have h:¬ (Iu a:Key)=Iu b:=λ q=>e (Sum.inl.inj q)
  rw [decide_eq_false h]
  exact (beq_eq_false_iff_ne.mpr e).symm
theorem yB (a b:Str):decide ((Iv a:Key)=Iv b)=decide (a=b):=by
 by_cases e:a=b
 ·subst e; simp
 ·have h:¬ (Iv a:Key)=Iv b:=λ q=>e (Sum.inr.inj q)
  rw [decide_eq_false h,decide_eq_false e]
theorem yC (a:Int) (b:Str):decide ((Iu a:Key)=Iv b)=false:=decide_eq_false (λ q=>nomatch q)
theorem yD (a:Str) (b:Int):decide ((Iv a:Key)=Iu b)=false:=decide_eq_false (λ q=>nomatch q)
noncomputable def mP (prog:Program) (w:World):PySem.KeyKind prog w Key where
 is:=yz
 hash:=Ct w
 inj:=λ v a b ha hb=>by
  rcases bi ha with ⟨i,t,rfl,rfl⟩ | ⟨x,t,rfl,rfl⟩
  ·rcases bi hb with ⟨j,u,rfl,e⟩ | ⟨y,u,rfl,e⟩
   ·injection e with e1 _; rw [e1]
   ·exact nomatch e
  ·rcases bi hb with ⟨j,u,rfl,e⟩ | ⟨y,u,rfl,e⟩
   ·exact nomatch e
   ·injection e with e1 _; rw [e1]
 byValue:=λ k v h=>by
  rcases bi h with ⟨i,t,rfl,rfl⟩ | ⟨x,t,rfl,rfl⟩<;>rfl
 pyHash:=λ hv h=>by
  rcases bi hv with ⟨i,t,rfl,rfl⟩ | ⟨x,t,rfl,rfl⟩
  ·exact wpAny_pyHash_int h
  ·exact wpAny_pyHash_str h
 eqBool:=λ hu hv h=>by
  rcases bi hu with ⟨i,t,rfl,rfl⟩ | ⟨x,t,rfl,rfl⟩
  ·rcases bi hv with ⟨j,u,rfl,rfl⟩ | ⟨y,u,rfl,rfl⟩
   ·rw [yA] at h; exact wpAny_eqBool_int h
   ·rw [yC] at h; exact Ml i t y u _ _ _ _ h
  ·rcases bi hv with ⟨j,u,rfl,rfl⟩ | ⟨y,u,rfl,rfl⟩
   ·rw [yD] at h; exact Mm x t j u _ _ _ _ h
   ·rw [yB] at h; exact wpAny_eqBool_str h
 «strs»:=λ k x t v h=>by
  rcases bi h with ⟨i,u,rfl,e⟩ | ⟨y,u,rfl,e⟩
  ·exact nomatch e
  ·injection e with e1 _
   subst e1
   cases v<;>rfl
inductive V where
 | non | bl (b:Bool) | int (i:Int) | str (x:Str) | byt (b:Array UInt8) | flt (b:UInt64) | ref (a:Addr) | ty (n:String)
 deriving DecidableEq
noncomputable def RelV:V->Value->Prop
 | .non,u=>u=D8
 | .bl b,u=>u=Io b
 | .int i,u=>∃ t,u=Hn i t
 | .str x,u=>∃ t,u=JC x t
 | .byt b,u=>∃ t,u=LX b t
 | .flt b,u=>∃ t,u=Kc b t
 | .ref a,u=>u=D5 a
 | .ty n,u=>u=EK n
abbrev Vals:List V->List Value->Prop:=Paired RelV
theorem Vals.length {xs:List V} {us:List Value} (r:Vals xs us):xs.length=us.length:=KY r
theorem Vals.get:∀ {xs:List V} {us:List Value} {i:Nat} {x:V},Vals xs us->xs[i]? = some x->∃ u,us[i]? = some u/\RelV x u
 | _,_,_,_,.nil,e=>by simp at e
 | _,_,0,_,.cons r _,e=>by simp at e; subst e; exact ⟨_,rfl,r⟩
 | _,_,i+1,x,.cons _ t,e=>by
  obtain ⟨u,h1,h2⟩:=Vals.get (i:=i) (x:=x) t (by simpa using e)
  exact ⟨u,by simpa using h1,h2⟩
theorem Vals.set {x:V} {u:Value} (r:RelV x u):∀ {xs:List V} {us:List Value} (i:Nat),Vals xs us->Vals (xs.set i x) (us.set i u)
 | _,_,_,.nil=>.nil
 | _,_,0,.cons _ t=>.cons r t
 | _,_,i+1,.cons q t=>.cons q (Vals.set r i t)
theorem Vals.append:∀ {xs ys:List V} {us ws:List Value},Vals xs us->Vals ys ws->Vals (xs++ys) (us++ws)
 | _,_,_,_,.nil,s=>s
 | _,_,_,_,.cons r t,s=>.cons r (Vals.append t s)
theorem Vals.take:∀ {xs:List V} {us:List Value} (n:Nat),Vals xs us->Vals (xs.take n) (us.take n)
 | _,_,0,_=>.nil
 | _,_,_+1,.nil=>.nil
 | _,_,n+1,.cons r t=>.cons r (Vals.take n t)
theorem Vals.drop:∀ {xs:List V} {us:List Value} (n:Nat),Vals xs us->Vals (xs.drop n) (us.drop n)
 | _,_,0,r=>r
 | _,_,_+1,.nil=>.nil
 | _,_,n+1,.cons _ t=>Vals.drop n t
noncomputable def RelO:Option V->Option Value->Prop
 | some v,some u=>RelV v u
 | none,none=>True
 | _,_=>False
def KV {κ:Type}:List (κ×V)->List (κ×Value)->Prop:=Paired λ (p:κ×V) (q:κ×Value)=>p.1=q.1/\RelV p.2 q.2
noncomputable def kV:Key->V
 | .inl i=>.int i
 | .inr x=>.str x
inductive HO where
 /-- a list -/
 | lst (xs:List V)
 /-- a tuple (never changes) -/
 | tup (xs:List V)
 /-- a dict whose keys are ints and texts; one whose keys are tuples of ints and texts (the empty one is both) -/
 | dK (kvs:List (Key×V)) | dT (kvs:List (List Key×V))
 /-- a set of ints: its members,its size -/
 | set (S:Int->Bool) (n:Nat)
 /-- an instance of the class at C,its dict at dx,its attributes -/
 | ins (C dx:Addr) (fs:List (Str×V))
 /-- the dict of the instance at x -/
 | own (x:Addr)
 /-- the dict of an exception -/
 | xd (fs:List (Str×V))
 /-- a bound method,f of x -/
 | met (f x:Addr)
 /-- a range object lo,lo+1,.. below hi -/
 | rng (lo hi:Int)
 /-- a thing that is known to the object (the script; a dict while a loop walks it): read,never written while it is so -/
 | frz (o:Obj) (u:HO)
 /-- a code object's table -/
 | tbl (ps:Array Value)
 /-- any other thing,by what is true of its one object (a def of one's own: SetO a S n:=HO.ext λ h=>..) -/
 | ext (φ:Heap->Prop)
noncomputable abbrev Hp:=Addr->Option HO
noncomputable def upd (H:Hp) (a:Addr) (o:HO):Hp:=λ b=>if b=a then some o else H b
theorem ab {H:Hp} {a:Addr} {o:HO}:upd H a o a=some o:=by unfold upd; rw [if_pos rfl]
theorem af {H:Hp} {a b:Addr} {o:HO} (h:b≠a):upd H a o b=H b:=by unfold upd; rw [if_neg h]
theorem cB {H:Hp} {a b:Addr} {o u:HO} (h:H a=some o) (h':H b=some u) (d:o≠u):a≠b:=by
 intro e; subst e; rw [h] at h'; exact d (D7 h')
theorem ae {H:Hp} {a b:Addr} {o:HO} (h:H a=some o) (h':H b=none):a≠b:=by
 intro e; subst e; rw [h] at h'; cases h'
section
variable (P:Program) (w:World)
noncomputable def ObjOk (H:Hp) (h:Heap) (a:Addr):HO->Prop
 | .lst xs=>xs.length<=sizeLine/\∃ (its:List Value) (n:Nat),Vals xs its/\h.get? a=some { cls:=.type "list",data:=.seq its.toArray n }
 | .tup xs=>xs.length<=sizeLine/\∃ its:List Value,Vals xs its/\IsTup h a its.toArray
 | .dK kvs=>kvs.length<=sizeLine/\(a == sysModules)=false/\∃ vs,KV kvs vs/\h.DictOf (mP P w) a vs
 | .dT kvs=>kvs.length<=sizeLine/\(a == sysModules)=false/\∃ xs:List (List Key×Addr×Value),
   Paired (λ (p:List Key×V) (q:List Key×Addr×Value)=>p.1=q.1/\H q.2.1=some (.tup (p.1.map kV))/\RelV p.2 q.2.2) kvs xs/\
   ∃ o es ep,h.get? a=some o/\o.ExactDict/\o.data=.dict es ep/\es.toList=xs.map (entryOfKey (tupleKind (mP P w)))/\(xs.map (·.1)).Nodup
 | .set S n=>h.SetOf (intKind P w) a S n
 | .ins C dx fs=>H dx=some (.own a)/\fs.length<=1000/\dx≠a/\h.get? a=some (Fh C dx)/\
   ∃ mA,h.Ns1 dx mA/\(∀ f,RelO (fs.lookup f) (mA f))/\JD mA (fs.map (·.1))
 | .own _=>∃ o,h.get? a=some o
 | .xd fs=>∃ mA,h.Ns1 a mA/\∀ f,RelO (fs.lookup f) (mA f)
 | .rng lo hi=>∃ t u v,h.get? a=some { cls:=.type "range",data:=.fields #[.int lo t,.int hi u,.int 1 v] }
 | .frz o u=>h.get? a=some o/\ObjOk H h a u
 | .tbl ps=>h.get? a=some { cls:=.none,data:=.fields ps }
 | .met f x=>h.get? a=some (Ic (.ref f) (.ref x))
 | .ext φ=>φ h/\(∃ o,h.get? a=some o)/\∀ h1 h2:Heap,φ h1->(∀ o,h1.get? a=some o->h2.get? a=some o)->φ h2
def HOk (H:Hp) (h:Heap):Prop:=∀ a o,H a=some o->ObjOk P w H h a o
end
section
variable {P:Program} {w:World} {H H':Hp} {h h':Heap} {a:Addr} {o:HO}
theorem ObjOk.lt (x:ObjOk P w H h a o):a<h.objs.size:=by
 cases o with
 | lst xs=>obtain ⟨_,_,_,_,e⟩:=x; exact Dp e
 | tup xs=>obtain ⟨_,_,_,p⟩:=x; exact p.lt
 | dK kvs=>obtain ⟨_,_,_,_,o,_,_,e,_⟩:=x; exact Dp e
 | dT kvs=>obtain ⟨_,_,_,_,o,_,_,e,_⟩:=x; exact Dp e
 | set S n=>obtain ⟨o,_,_,_,e,_⟩:=x; exact Dp e
 | ins C dx fs=>obtain ⟨_,_,_,e,_⟩:=x; exact Dp e
 | own y=>obtain ⟨_,e⟩:=x; exact Dp e
 | xd fs=>obtain ⟨_,⟨_,_,_,e,_⟩,_⟩:=x; exact Dp e
 | rng lo hi=>obtain ⟨_,_,_,e⟩:=x; exact Dp e
 | frz ob u=>obtain ⟨e,_⟩:=x; exact Dp e
 | tbl ps=>exact Dp (show h.get? a=some _ from x)
 | met f y=>exact Dp (show h.get? a=some _ from x)
 | ext φ=>obtain ⟨_,⟨_,e⟩,_⟩:=x; exact Dp e
theorem Paired.mapP {α β:Type} {F G:α->β->Prop}:∀ {l₁:List α} {l₂:List β},Paired F l₁ l₂->(∀ a b,F a b->G a b)->Paired G l₁ l₂
 | _,_,.nil,_=>.nil
 | _,_,.cons r t,f=>.cons (f _ _ r) (Paired.mapP t f)
theorem ObjOk.stay (x:ObjOk P w H h a o) (k:∀ b u,(b=a\/H b=some (.own a))->h.get? b=some u->h'.get? b=some u)
  (ho:∀ b,H b=some (.own a)->H' b=some (.own a)) (ht:∀ b xs,H b=some (.tup xs)->H' b=some (.tup xs)):ObjOk P w H' h' a o:=by
 induction o with
 | lst xs=>obtain ⟨z,its,n,r,e⟩:=x; exact ⟨z,its,n,r,k _ _ (.inl rfl) e⟩
 | tup xs=>obtain ⟨z,its,r,ob,e,c⟩:=x; exact ⟨z,its,r,ob,k _ _ (.inl rfl) e,c⟩
 | dK kvs=>obtain ⟨z,y,vs,r,ob,es,ep,e,c⟩:=x; exact ⟨z,y,vs,r,ob,es,ep,k _ _ (.inl rfl) e,c⟩
 | dT kvs=>
  obtain ⟨z,y,xs,r,ob,es,ep,e,c⟩:=x
  exact ⟨z,y,xs,Paired.mapP r λ p q z=>⟨z.1,ht _ _ z.2.1,z.2.2⟩,ob,es,ep,k _ _ (.inl rfl) e,c⟩
 | set S n=>obtain ⟨ob,es,ep,t,e,c⟩:=x; exact ⟨ob,es,ep,t,k _ _ (.inl rfl) e,c⟩
 | ins C dx fs=>
  obtain ⟨d,z,ne,e,mA,⟨od,es,ep,e2,c⟩,r⟩:=x
  exact ⟨ho _ d,z,ne,k _ _ (.inl rfl) e,mA,⟨od,es,ep,k _ _ (.inr d) e2,c⟩,r⟩
 | own y=>obtain ⟨ob,e⟩:=x; exact ⟨ob,k _ _ (.inl rfl) e⟩
 | xd fs=>obtain ⟨mA,⟨od,es,ep,e,c⟩,r⟩:=x; exact ⟨mA,⟨od,es,ep,k _ _ (.inl rfl) e,c⟩,r⟩
 | rng lo hi=>obtain ⟨t,u,v,e⟩:=x; exact ⟨t,u,v,k _ _ (.inl rfl) e⟩
 | frz ob u ih=>obtain ⟨e,q⟩:=x; exact ⟨k _ _ (.inl rfl) e,ih q⟩
 | tbl ps=>
  have e:h.get? a=some { cls:=.none,data:=.fields ps }:=x
  show h'.get? a=some { cls:=.none,data:=.fields ps }
  exact k a _ (.inl rfl) e
 | met f y=>
  have e:h.get? a=some (Ic (.ref f) (.ref y)):=x
  show h'.get? a=some (Ic (.ref f) (.ref y))
  exact k a _ (.inl rfl) e
 | ext φ=>obtain ⟨p,⟨o,e⟩,st⟩:=x; exact ⟨st _ _ p λ o q=>k _ _ (.inl rfl) q,⟨o,k _ _ (.inl rfl) e⟩,st⟩
theorem HOk.lt (x:HOk P w H h) (e:H a=some o):a<h.objs.size:=(x a o e).lt
theorem HOk.fresh (x:HOk P w H h) (e:h.objs.size<=a):H a=none:=by
 cases q:H a with
 | none=>rfl
 | some u=>exact absurd (Ds (x.lt q) e) (EM _)
theorem HOk.kept (x:HOk P w H h) (k:∀ b u,h.get? b=some u->h'.get? b=some u):HOk P w H h':=λ a o e=>
 (x a o e).stay (λ b u _ q=>k b u q) (λ _ q=>q) λ _ _ q=>q
theorem HOk.laid (x:HOk P w H h) (k:∀ b u,h.get? b=some u->h'.get? b=some u) (hp:h.objs.size<=a) (new:ObjOk P w (upd H a o) h' a o):HOk P w (upd H a o) h':=λ b u e=>by
 have hn:=x.fresh hp
 by_cases hb:b=a
 ·subst hb; rw [ab] at e; cases e; exact new
 ·rw [af hb] at e
  exact (x b u e).stay (λ c v _ q=>k c v q) (λ c q=>by rw [af (ae q hn)]; exact q) λ c xs q=>by rw [af (ae q hn)]; exact q
end
def Rd (H:Hp) (a:Addr) (u:HO):Prop:=H a=some u\/∃ o,H a=some (.frz o u)
theorem Rd.ok {P:Program} {w:World} {H:Hp} {h:Heap} {a:Addr} {u:HO} (r:Rd H a u) (x:HOk P w H h):ObjOk P w H h a u:=by
 rcases r with r | ⟨o,r⟩
 ·exact x a u r
 ·obtain ⟨_,q⟩:=x a _ r
  exact q
noncomputable def Mut:Option HO->Prop
 | some (.lst _)=>True
 | some (.dK _)=>True
 | some (.dT _)=>True
 | some (.set _ _)=>True
 | some (.ins _ _ _)=>True
 | some (.ext _)=>True
 | _=>False
section
variable {P:Program} {w:World} {H:Hp} {h h':Heap} {x e:Addr} {o':HO}
theorem HOk.write (ok:HOk P w H h) (mu:Mut (H x)) (he:e=x\/H e=some (.own x)) (k:∀ b u,b≠e->h.get? b=some u->h'.get? b=some u) (heo:∃ u,h'.get? e=some u)
  (new:ObjOk P w (upd H x o') h' x o'):HOk P w (upd H x o') h':=λ b u q=>by
 have nown:∀ c y,H c=some (.own y)->c≠x:=λ c y r z=>by subst z; rw [r] at mu; exact mu
 have ntup:∀ c xs,H c=some (.tup xs)->c≠x:=λ c xs r z=>by subst z; rw [r] at mu; exact mu
 by_cases hb:b=x
 ·subst hb; rw [ab] at q; cases q; exact new
 ·rw [af hb] at q
  by_cases hbe:b=e
  ·have q':H b=some (.own x):=by
    rcases he with z | z
    ·exact absurd (hbe.trans z) hb
    ·rw [hbe]; exact z
   rw [q] at q'; cases q'
   obtain ⟨v,hv⟩:=heo
   exact ⟨v,by rw [hbe]; exact hv⟩
  ·refine (ok b u q).stay (λ c v hc r=>k c v ?_ r) (λ c r=>by rw [af (nown c b r)]; exact r) λ c xs r=>by rw [af (ntup c xs r)]; exact r
   rcases hc with rfl | hc
   ·exact hbe
   ·rintro rfl
    rcases he with z | z
    ·exact nown c b hc z
    ·rw [hc] at z; cases z; exact hb rfl
end
structure Un (fs ex:List Addr) (H H':Hp) (h h':Heap):Prop where
 keep:∀ b o,h.get? b=some o->H b=none->b∉fs->b∉ex->h'.get? b=some o
 slot:∀ b o,h.get? b=some o->H b=none->b∈fs->b∉ex->∃ sl,h'.get? b=some { o with slots:=sl }
 free:∀ b o,h.get? b=some o->H b=none->b∉ex->H' b=none
 there:∀ b o,h.get? b=some o->b∉ex->∃ o',h'.get? b=some o'
 tups:∀ b xs,H b=some (.tup xs)->H' b=some (.tup xs)
 frzs:∀ b o u,H b=some (.frz o u)->H' b=some (.frz o u)
 tbls:∀ b ps,H b=some (.tbl ps)->∃ more,H' b=some (.tbl (ps++more))
section
variable {fs fs' ex ex':List Addr} {H H1 H2:Hp} {h h1 h2 h':Heap} {a x e:Addr} {o:HO}
theorem Un.any (u:Un fs ex H H1 h h1) {b:Addr} {ob:Obj} (q:h.get? b=some ob) (n:H b=none) (hx:b∉ex):∃ sl,h1.get? b=some { ob with slots:=sl }:=by
 by_cases hb:b∈fs
 ·exact u.slot b ob q n hb hx
 ·exact ⟨ob.slots,u.keep b ob q n hb hx⟩
theorem Un.kept (k:∀ b u,h.get? b=some u->h'.get? b=some u):Un fs ex H H h h':=
 ⟨λ b ob q _ _ _=>k b ob q,λ b ob q _ _ _=>⟨ob.slots,k b ob q⟩,λ _ _ _ n _=>n,λ b ob q _=>⟨ob,k b ob q⟩,λ _ _ q=>q,λ _ _ _ q=>q,λ _ ps q=>⟨#[],by rw [q]; simp⟩⟩
theorem Un.refl:Un fs ex H H h h:=Un.kept λ _ _ q=>q
theorem Un.laid (k:∀ b u,h.get? b=some u->h'.get? b=some u) (hp:h.objs.size<=a) (hn:H a=none):Un fs ex H (upd H a o) h h' where
 keep:=λ b u q _ _ _=>k b u q
 slot:=λ b u q _ _ _=>⟨u.slots,k b u q⟩
 free:=λ b u q n _=>by rw [af (Dw (Ds (Dp q) hp))]; exact n
 there:=λ b u q _=>⟨u,k b u q⟩
 tups:=λ b xs q=>by rw [af (ae q hn)]; exact q
 frzs:=λ b u xs q=>by rw [af (ae q hn)]; exact q
 tbls:=λ b ps q=>⟨#[],by rw [af (ae q hn),q]; simp⟩
theorem Un.write (mu:Mut (H x)) (he:e=x\/H e=some (.own x)) (k:∀ b u,b≠e->h.get? b=some u->h'.get? b=some u) (heo:∃ u,h'.get? e=some u):Un fs ex H (upd H x o) h h':=by
 have hx:∀ b,H b=none->b≠x:=λ b n z=>by subst z; rw [n] at mu; exact mu
 have hb:∀ b,H b=none->b≠e:=λ b n z=>by
  subst z
  rcases he with r | r
  ·exact hx b n r
  ·rw [n] at r; cases r
 have hm:∀ b u,H b=some u->¬ Mut (some u)->b≠x:=λ b u q nm z=>by subst z; rw [q] at mu; exact nm mu
 refine ⟨λ b u q n _ _=>k b u (hb b n) q,λ b u q n _ _=>⟨u.slots,k b u (hb b n) q⟩,λ b u q n _=>by rw [af (hx b n)]; exact n,λ b u q _=>?_,
  λ b xs q=>by rw [af (hm b _ q λ z=>z)]; exact q,λ b u xs q=>by rw [af (hm b _ q λ z=>z)]; exact q,λ b ps q=>⟨#[],by rw [af (hm b _ q λ z=>z),q]; simp⟩⟩
 by_cases hbe:b=e
 ·subst hbe; exact heo
 ·exact ⟨u,k b u hbe q⟩
end
noncomputable def trk (h:Heap) (H:Hp):List Addr:=(C9 h.objs.size).filter λ a=>(H a).isSome
noncomputable def tW (h:Heap) (H:Hp):Heap:=PySem.W.hideAll h (trk h H)
theorem pX (h:Heap) (H:Hp):(tW h H).objs.size=h.objs.size:=PySem.W.hideAll_size _ _
theorem tX {h:Heap} {H:Hp} {b:Addr} {o:Obj} (e:h.get? b=some o) (n:H b=none):(tW h H).get? b=some o:=
 PySem.W.hideAll_get _ e λ hm=>by
  have q:(H b).isSome=true:=(Ee.mp hm).2
  rw [n] at q; simp at q
theorem v0 {h:Heap} {H:Hp} {b:Addr} {o:Obj} (e:(tW h H).get? b=some o):h.get? b=some o/\H b=none:=by
 have e':h.get? b=some o:=PySem.W.of_hideAll (trk h H) e
 refine ⟨e',?_⟩
 cases q:H b with
 | none=>rfl
 | some x=>
  have hm:b∈trk h H:=Ee.mpr ⟨DN.mpr (Dp e'),by simp [q]⟩
  have z:(tW h H).get? b=none:=PySem.W.hideAll_none (trk h H) hm
  rw [z] at e; cases e
noncomputable def wa (g h:Heap) (L:Addr):List (Addr×Obj):=(C9 h.objs.size).filterMap λ a=>if a=L\/(g.get? a).isSome=true then none else (h.get? a).map λ o=>(a,o)
noncomputable def rest (g h:Heap) (L d:Addr):List (Addr×Obj):=(wa g h L).filter λ p=>decide (p.1≠d)
structure Mod (K:C7) (mg:Str->Option Value) (base:Heap):Prop where
 kin:K.In base
 glob:base.Ns mainGlobals mg
 blt:∃ mb,base.Ns builtinsNs mb/\∀ x:Str,x≠"__name__"->mb x=bootBuiltins x
 nolimit:base.NoLimit
/-- the context: a def's body (or a comprehension's block) running. base: fixed through the whole law; s₀,H₀: the entry; outer: the frames whose slots others may change (a def's callers); stack: all frames that run;
   ex: iterators that were made ahead of the entry and are walked here (a comprehension's); fn: the names whose cells were made at the entry (a def: all; a comprehension's block: its own); calm: not within an except suite; pn: pins that every state bears; xe: what is wanted of an exception that leaves the code -/
structure Cx where
 prog:Program
 w:World
 K:C7
 mg:Str->Option Value
 base:Heap
 A:Around
 N:List Str
 s₀:Shared
 H₀:Hp
 env:Env
 outer:List Env
 stack:List Env
 ex:List Addr
 fn:Str->Bool
 calm:Bool
 pn:List (Addr×Obj)
 xe:Value->Shared->Prop
noncomputable def frs (l:List Env):List Addr:=l.filterMap (·.frame)
noncomputable abbrev Cx.fs (X:Cx):List Addr:=frs X.outer
def Vis (sc:Scope) (x:Str):Prop:=sc.names.lookup x=some .local\/sc.names.lookup x=some .cell\/sc.names.lookup x=some .free
def Loc (sc:Scope) (x:Str):Prop:=sc.names.lookup x=some .local\/sc.names.lookup x=some .cell
def Cu (env:Env) (h:Heap) (m:Str->Option Value) (x:Str) (u:Value):Prop:=
 (env.kindOf x=some .local/\m x=some u)\/((env.kindOf x=some .cell\/env.kindOf x=some .free)/\∃ c,env.cells.lookup x=some c/\h.IsCell c (some u))
structure Cx.Ok (X:Cx):Prop where
 mod:Mod X.K X.mg X.base
 kind:X.env.scope.kind=.function
 glob:X.env.globals=mainGlobals
 blt:X.env.builtins=builtinsNs
 above:X.s₀.heap.objs.size<=X.env.locals
 inj:∀ x y c,X.env.cells.lookup x=some c->X.env.cells.lookup y=some c->x=y
 has:∀ x,(X.env.kindOf x=some .cell\/X.env.kindOf x=some .free)->∃ c,X.env.cells.lookup x=some c
 cab:∀ x c,X.fn x=true->X.env.cells.lookup x=some c->X.s₀.heap.objs.size<=c
 hd:X.calm=true->X.A.handled=none
 frames:X.A.frames=some X.stack
 stk:X.stack=X.outer\/(X.stack=X.env::X.outer/\X.env.frame=some X.env.locals)
 exf:∀ b∈X.ex,b≠X.env.locals/\∀ x c,X.env.cells.lookup x=some c->c≠b
 bs:∀ b o,X.base.get? b=some o->X.s₀.heap.get? b=some o/\X.H₀ b=none
 bsz:X.base.objs.size<=X.s₀.heap.objs.size
 noex:∀ b o,X.base.get? b=some o->b∉X.ex
 exfs:∀ b∈X.ex,b∉X.fs
 funs:X.s₀.heap.FunFrames X.base X.outer
 frf:∀ b∈X.fs,X.H₀ b=none
structure Inv (X:Cx) (pins:List (Addr×Obj)) (σ:List (Option V)) (H:Hp) (s:Shared):Prop where
 ok:X.Ok
 os:s.os=X.s₀.os
 bare:AllBare s.gens
 base:Un X.fs X.ex X.H₀ H X.s₀.heap s.heap
 loc:∃ m,s.heap.Ns X.env.locals m/\∀ (i:Nat) (x:Str) (v:V),X.N[i]? = some x->σ[i]? = some (some v)->Vis X.env.scope x->∃ u,RelV v u/\Cu X.env s.heap m x u
 cell:∀ x c,X.env.cells.lookup x=some c->∃ v,s.heap.IsCell c v
 free:H X.env.locals=none
 freeC:∀ x c,X.env.cells.lookup x=some c->H c=none
 pin:∀ p∈X.pn++pins,s.heap.get? p.1=some p.2/\H p.1=none/\p.1≠X.env.locals/\p.1∉X.fs/\∀ v,p.2.data≠.cell v
 hok:HOk X.prog X.w H s.heap
 len:σ.length=X.N.length
section
variable {X:Cx} {pins:List (Addr×Obj)} {σ:List (Option V)} {H H':Hp} {s:Shared} {h':Heap}
theorem Cx.Ok.nofr (ok:X.Ok) {b:Addr} {o:Obj} (e:X.base.get? b=some o):b∉X.fs:=λ hb=>by
 have:=(ok.funs.mem hb).1
 rw [e] at this; cases this
theorem Inv.bs (I:Inv X pins σ H s):∀ b o,X.base.get? b=some o->s.heap.get? b=some o/\H b=none:=λ b o e=>
 ⟨I.base.keep b o (I.ok.bs b o e).1 (I.ok.bs b o e).2 (I.ok.nofr e) (I.ok.noex b o e),I.base.free b o (I.ok.bs b o e).1 (I.ok.bs b o e).2 (I.ok.noex b o e)⟩
theorem Inv.bk (I:Inv X pins σ H s):∀ b o,X.base.get? b=some o->s.heap.get? b=some o:=λ b o e=>(I.bs b o e).1
theorem Inv.mod (I:Inv X pins σ H s):Mod X.K X.mg X.base:=I.ok.mod
theorem Inv.kIn (I:Inv X pins σ H s):X.K.In s.heap:=I.ok.mod.kin.keeps I.bk
theorem Inv.lt (I:Inv X pins σ H s):X.env.locals<s.heap.objs.size:=let ⟨_,hn,_⟩:=I.loc; hn.lt
theorem Inv.sz (I:Inv X pins σ H s):X.s₀.heap.objs.size<=s.heap.objs.size:=D9 I.ok.above (EN I.lt)
theorem Inv.nofs (I:Inv X pins σ H s) {a:Addr} (h:s.heap.objs.size<=a):a∉X.fs:=λ hb=>by
 obtain ⟨_,o,ho,_⟩:=I.ok.funs.mem hb
 exact absurd (Ds (Dp ho) (D9 I.sz h)) (EM _)
theorem Inv.cne (I:Inv X pins σ H s):∀ x c,X.env.cells.lookup x=some c->c≠X.env.locals:=λ x c e z=>by
 obtain ⟨v,o,ho,hd⟩:=I.cell x c e
 obtain ⟨m,⟨o',es,ep,ho',hd',_⟩,_⟩:=I.loc
 rw [z,ho'] at ho; cases ho; rw [hd'] at hd; cases hd
theorem Inv.funs (I:Inv X pins σ H s):s.heap.FunFrames X.base X.outer:=by
 have all:∀ (l:List Env),(∀ b∈frs l,b∈X.fs)->X.s₀.heap.FunFrames X.base l->s.heap.FunFrames X.base l:=by
  intro l
  induction l with
  | nil=>intro _ _; trivial
  | cons env r ih=>
   intro hs hl
   obtain ⟨hk,⟨L,o,hf,hn,ho,hd⟩,hr⟩:=hl
   have hL:L∈X.fs:=hs L (by unfold frs; rw [Ha,hf]; exact DF)
   obtain ⟨sl,e⟩:=I.base.slot L o ho (I.ok.frf L hL) hL λ z=>I.ok.exfs L z hL
   exact ⟨hk,⟨L,_,hf,hn,e,hd⟩,ih (λ b hb=>hs b (by unfold frs; rw [Ha,hf]; exact DE _ hb)) hr⟩
 exact all X.outer (λ _ hb=>hb) I.ok.funs
theorem Inv.stack (I:Inv X pins σ H s):s.heap.FunFrames X.base X.stack:=by
 rcases I.ok.stk with e | ⟨e,hf⟩
 ·rw [e]; exact I.funs
 ·rw [e]
  obtain ⟨m,hn,_⟩:=I.loc
  refine .cons (by rw [I.ok.kind]; decide) hf hn ?_ I.funs
  exact Heap.get?_none_of_le (D9 I.ok.bsz I.ok.above)
theorem Inv.stkSub (I:Inv X pins σ H s):∀ b∈frs X.stack,b∈X.env.locals::X.fs:=λ b hb=>by
 rcases I.ok.stk with e | ⟨e,hf⟩
 ·rw [e] at hb; exact DE _ hb
 ·rw [e] at hb
  unfold frs at hb
  rw [Ha,hf] at hb
  exact hb
theorem Inv.stkFree (I:Inv X pins σ H s):∀ b∈frs X.stack,H b=none:=λ b hb=>by
 rcases Dx.mp (I.stkSub b hb) with e | hb
 ·rw [e]; exact I.free
 ·obtain ⟨_,o,ho,_⟩:=I.ok.funs.mem hb
  exact I.base.free b o ho (I.ok.frf b hb) λ z=>I.ok.exfs b z hb
theorem Inv.step {g':Array GenState} {t':Nat} {d':Drawn} {ch:List Addr} (I:Inv X pins σ H s)
  (hch:∀ b∈ch,(b∈X.ex\/X.s₀.heap.objs.size<=b)/\b≠X.env.locals/\(∀ x c,X.env.cells.lookup x=some c->c≠b)/\∀ p∈X.pn++pins,p.1≠b)
  (keep:∀ b o,b≠X.env.locals->b∉X.fs->b∉ch->s.heap.get? b=some o->H b=none->h'.get? b=some o)
  (slot:∀ b o,b≠X.env.locals->b∈X.fs->b∉ch->s.heap.get? b=some o->H b=none->∃ sl,h'.get? b=some { o with slots:=sl }) (free:∀ b o,b∉ch->s.heap.get? b=some o->H b=none->H' b=none)
  (there:∀ b o,b∉ch->s.heap.get? b=some o->∃ o',h'.get? b=some o')
  (tups:∀ b xs,H b=some (.tup xs)->H' b=some (.tup xs)) (frzs:∀ b o u,H b=some (.frz o u)->H' b=some (.frz o u)) (tbls:∀ b ps,H b=some (.tbl ps)->∃ more,H' b=some (.tbl (ps++more)))
  (ns:∀ m,s.heap.Ns X.env.locals m->h'.Ns X.env.locals m) (hok:HOk X.prog X.w H' h') (hg:AllBare g') :
  Inv X pins σ H' { s with heap:=h',gens:=g',drawn:=d',toks:=t' }:=by
 have neL:∀ b o,X.s₀.heap.get? b=some o->b≠X.env.locals:=λ b o e=>Dw (Ds (Dp e) I.ok.above)
 have neC:∀ b o,X.s₀.heap.get? b=some o->b∉X.ex->b∉ch:=λ b o e hx hb=>by
  rcases (hch b hb).1 with z | z
  ·exact hx z
  ·exact absurd (Ds (Dp e) z) (EM _)
 have cellK:∀ x c,X.env.cells.lookup x=some c->∀ v,s.heap.IsCell c v->h'.IsCell c v:=λ x c e v ⟨o,ho,hd⟩=>by
  have nch:c∉ch:=λ z=>(hch c z).2.2.1 x c e rfl
  by_cases hc:c∈X.fs
  ·obtain ⟨sl,q⟩:=slot c o (I.cne x c e) hc nch ho (I.freeC x c e)
   exact ⟨_,q,hd⟩
  ·exact ⟨o,keep c o (I.cne x c e) hc nch ho (I.freeC x c e),hd⟩
 refine ⟨I.ok,I.os,hg,⟨λ b o e n hb hx=>?_,λ b o e n hb hx=>?_,λ b o e n hx=>?_,λ b o e hx=>?_,λ b xs e=>tups b xs (I.base.tups b xs e),λ b o xs e=>frzs b o xs (I.base.frzs b o xs e),λ b ps e=>?_⟩,?_,λ x c e=>?_,?_,λ x c e=>?_,λ p hp=>?_,hok,I.len⟩
 ·exact keep b o (neL b o e) hb (neC b o e hx) (I.base.keep b o e n hb hx) (I.base.free b o e n hx)
 ·obtain ⟨sl,e1⟩:=I.base.slot b o e n hb hx
  obtain ⟨sl',e2⟩:=slot b _ (neL b o e) hb (neC b o e hx) e1 (I.base.free b o e n hx)
  exact ⟨sl',e2⟩
 ·obtain ⟨o',e1⟩:=I.base.there b o e hx
  exact free b o' (neC b o e hx) e1 (I.base.free b o e n hx)
 ·obtain ⟨o',e1⟩:=I.base.there b o e hx
  exact there b o' (neC b o e hx) e1
 ·obtain ⟨m1,e1⟩:=I.base.tbls b ps e
  obtain ⟨m2,e2⟩:=tbls b _ e1
  exact ⟨m1++m2,by rw [e2,Array.append_assoc]⟩
 ·obtain ⟨m,hn,hl⟩:=I.loc
  refine ⟨m,ns m hn,λ i x v e1 e2 e3=>?_⟩
  obtain ⟨u,r,l⟩:=hl i x v e1 e2 e3
  refine ⟨u,r,?_⟩
  rcases l with l | ⟨k,c,e,z⟩
  ·exact .inl l
  ·exact .inr ⟨k,c,e,cellK x c e _ z⟩
 ·obtain ⟨v,z⟩:=I.cell x c e
  exact ⟨v,cellK x c e v z⟩
 ·obtain ⟨m,⟨o,_,_,ho,_⟩,_⟩:=I.loc
  exact free _ o (λ z=>(hch _ z).2.1 rfl) ho I.free
 ·obtain ⟨v,o,ho,hd⟩:=I.cell x c e
  exact free c o (λ z=>(hch c z).2.2.1 x c e rfl) ho (I.freeC x c e)
 ·obtain ⟨e,n,ne,nf,d⟩:=I.pin p hp
  have nch:p.1∉ch:=λ z=>(hch p.1 z).2.2.2 p hp rfl
  exact ⟨keep p.1 p.2 ne nf nch e n,free p.1 p.2 nch e n,ne,nf,d⟩
theorem Inv.un {t':Nat} (I:Inv X pins σ H s) (u:Un X.fs [] H H' s.heap h') (hok:HOk X.prog X.w H' h'):Inv X pins σ H' { s with heap:=h',toks:=t' }:=by
 obtain ⟨m,⟨o,es,ep,ho,r⟩,_⟩:=id I.loc
 obtain ⟨sl,hL⟩:=u.any ho I.free (by simp)
 exact I.step (g':=s.gens) (d':=s.drawn) (ch:=[]) (λ _ z=>nomatch z) (λ b o _ hb _ e n=>u.keep b o e n hb (by simp)) (λ b o _ hb _ e n=>u.slot b o e n hb (by simp)) (λ b o _ e n=>u.free b o e n (by simp)) (λ b o _ e=>u.there b o e (by simp)) u.tups u.frzs u.tbls (λ m' hm=>by
  obtain ⟨o',es',ep',ho',r'⟩:=hm
  rw [ho] at ho'; cases ho'
  exact ⟨_,es',ep',hL,r'⟩) hok I.bare
theorem Inv.call {g':Array GenState} {t':Nat} {d':Drawn} {ch:List Addr} (I:Inv X pins σ H s) (u:Un (frs X.stack) ch H H' s.heap h') (hok:HOk X.prog X.w H' h') (hg:AllBare g')
  (hch:∀ b∈ch,(b∈X.ex\/X.s₀.heap.objs.size<=b)/\b≠X.env.locals/\(∀ x c,X.env.cells.lookup x=some c->c≠b)/\∀ p∈X.pn++pins,p.1≠b) :
  Inv X pins σ H' { s with heap:=h',gens:=g',drawn:=d',toks:=t' }:=by
 obtain ⟨m,⟨o,es,ep,ho,r⟩,_⟩:=id I.loc
 obtain ⟨sl,hL⟩:=u.any ho I.free λ z=>(hch _ z).2.1 rfl
 exact I.step (ch:=ch) hch (λ b o hL hb hc e n=>u.keep b o e n (λ z=>(Dx.mp (I.stkSub b z)).elim hL hb) hc) (λ b o _ _ hc e n=>u.any e n hc) (λ b o hc e n=>u.free b o e n hc) (λ b o hc e=>u.there b o e hc) u.tups u.frzs u.tbls (λ m' hm=>by
  obtain ⟨o',es',ep',ho',r'⟩:=hm
  rw [ho] at ho'; cases ho'
  exact ⟨_,es',ep',hL,r'⟩) hok hg
theorem Inv.turned {t':Nat} {it:Addr} (I:Inv X pins σ H s) (k:∀ b o,b≠it->s.heap.get? b=some o->h'.get? b=some o) (hn:H it=none) (hL:it≠X.env.locals)
  (h1:it∈X.ex\/X.s₀.heap.objs.size<=it) (h2:∀ x c,X.env.cells.lookup x=some c->c≠it) (h3:∀ p∈X.pn++pins,p.1≠it):Inv X pins σ H { s with heap:=h',toks:=t' }:=by
 have nit:∀ b u,H b=some u->b≠it:=λ b u e z=>by rw [z,hn] at e; cases e
 refine I.step (g':=s.gens) (d':=s.drawn) (ch:=[it]) (λ b hb=>?_) (λ b o _ _ hc e _=>k b o (λ z=>hc (by simp [z])) e) (λ b o _ _ hc e _=>⟨o.slots,k b o (λ z=>hc (by simp [z])) e⟩) (λ _ _ _ _ n=>n)
  (λ b o hc e=>⟨o,k b o (λ z=>hc (by simp [z])) e⟩) (λ _ _ e=>e) (λ _ _ _ e=>e) (λ b ps e=>⟨#[],by rw [e]; simp⟩) (λ m hm=>?_) (λ b u e=>?_) I.bare
 ·have e:b=it:=by simpa using hb
  subst e
  exact ⟨h1,hL,h2,h3⟩
 ·obtain ⟨o,es,ep,ho,r⟩:=hm
  exact ⟨o,es,ep,k _ o (DX hL) ho,r⟩
 ·refine (I.hok b u e).stay (λ c v hc q=>k c v ?_ q) (λ _ q=>q) λ _ _ q=>q
  rcases hc with z | z
  ·rw [z]; exact nit b u e
  ·exact nit c _ z
theorem Inv.tok (I:Inv X pins σ H s) (t:Nat):Inv X pins σ H { s with toks:=t }:=I.un (h':=s.heap) (t':=t) Un.refl I.hok
theorem Inv.kept {t':Nat} (I:Inv X pins σ H s) (k:∀ b u,s.heap.get? b=some u->h'.get? b=some u):Inv X pins σ H { s with heap:=h',toks:=t' }:=I.un (Un.kept k) (I.hok.kept k)
theorem Inv.laid {a:Addr} {o:HO} {t':Nat} (I:Inv X pins σ H s) (k:∀ b u,s.heap.get? b=some u->h'.get? b=some u) (hp:s.heap.objs.size<=a) (new:ObjOk X.prog X.w (upd H a o) h' a o) :
  Inv X pins σ (upd H a o) { s with heap:=h',toks:=t' }:=I.un (Un.laid k hp (I.hok.fresh hp)) (I.hok.laid k hp new)
theorem Inv.write {x e:Addr} {o:HO} {t':Nat} (I:Inv X pins σ H s) (mu:Mut (H x)) (he:e=x\/H e=some (.own x)) (k:∀ b u,b≠e->s.heap.get? b=some u->h'.get? b=some u) (heo:∃ u,h'.get? e=some u)
  (new:ObjOk X.prog X.w (upd H x o) h' x o):Inv X pins σ (upd H x o) { s with heap:=h',toks:=t' }:=I.un (Un.write mu he k heo) (I.hok.write mu he k heo new)
theorem Inv.pins_of {pins':List (Addr×Obj)} (I:Inv X pins σ H s) (h:∀ p∈pins',s.heap.get? p.1=some p.2/\H p.1=none/\p.1≠X.env.locals/\p.1∉X.fs/\∀ v,p.2.data≠.cell v):Inv X pins' σ H s:=
 ⟨I.ok,I.os,I.bare,I.base,I.loc,I.cell,I.free,I.freeC,λ p hp=>(DG.mp hp).elim (λ z=>I.pin p (D3 _ z)) (h p),I.hok,I.len⟩
theorem nL {N:List Str} (hN:N.Nodup) {i j:Nat} {x:Str} (a:N[i]? = some x) (b:N[j]? = some x):i=j:=by
 obtain ⟨h1,e1⟩:=DQ.mp a
 obtain ⟨h2,e2⟩:=DQ.mp b
 exact (List.getElem_inj hN).mp (e1.trans e2.symm)
theorem pY {M:Model} {A:Around} {E:Value->Shared->Prop} {i:Nat} {x:Str} {v:V} {u:Value} {Q:Unit->Shared->Prop} (I:Inv X pins σ H s) (hN:X.N.Nodup) (hi:X.N[i]? = some x) (hx:Loc X.env.scope x) (r:RelV v u)
  (h:∀ s',Inv X pins (σ.set i (some v)) H s'->(∃ a,Gr a s.heap s'.heap/\(a=X.env.locals\/X.env.cells.lookup x=some a))->Q () s') (hf:X.fn x=true\/X.env.scope.names.lookup x=some .local:=by first | exact .inl rfl | exact .inr rfl | assumption):wpAny M A (storeName X.env x u) Q E s:=by
 obtain ⟨m,hn,hl⟩:=id I.loc
 have hcls:(X.env.scope.kind == .class || (X.env.scope.kind == .module && X.env.locals != X.env.globals))=false:=by rw [I.ok.kind]; rfl
 have hiσ:i<σ.length:=by rw [I.len]; exact (DQ.mp hi).1
 have cne:=I.cne
 have tracked:∀ {a:Addr} {h':Heap},(∃ o,s.heap.get? a=some o/\H a=none)->Gr a s.heap h'->HOk X.prog X.w H h':=λ {a h'} ha hs b ob e=>by
  obtain ⟨_,_,hfree⟩:=ha
  refine (I.hok b ob e).stay (λ c w' hc q=>(hs.2 c ?_).trans q) (λ _ q=>q) λ _ _ q=>q
  rintro rfl
  rcases hc with rfl | hc
  ·rw [hfree] at e; cases e
  ·rw [hfree] at hc; cases hc
 rcases hx with hk | hk
 ·refine wpAny_storeName_local hk hn (λ h' hn' hs=>?_) hcls
  obtain ⟨oL,_,_,hoL,_⟩:=id hn
  refine h _ ⟨I.ok,I.os,I.bare,⟨λ b o e n hb hx=>?_,λ b o e n hb hx=>?_,I.base.free,λ b o e hx=>?_,I.base.tups,I.base.frzs,I.base.tbls⟩,⟨_,hn',λ j y v' e1 e2 e3=>?_⟩,λ y c e=>?_,I.free,I.freeC,λ p hp=>?_,tracked ⟨oL,hoL,I.free⟩ hs,by simpa using I.len⟩ ⟨_,hs,.inl rfl⟩
  ·exact (hs.2 b (Dw (Ds (Dp e) I.ok.above))).trans (I.base.keep b o e n hb hx)
  ·obtain ⟨sl,e1⟩:=I.base.slot b o e n hb hx
   exact ⟨sl,(hs.2 b (Dw (Ds (Dp e) I.ok.above))).trans e1⟩
  ·obtain ⟨o',e1⟩:=I.base.there b o e hx
   exact ⟨o',(hs.2 b (Dw (Ds (Dp e) I.ok.above))).trans e1⟩
  ·by_cases hj:j=i
   ·subst hj
    rw [hi] at e1; cases e1
    rw [EH hiσ] at e2
    cases e2
    exact ⟨u,r,.inl ⟨hk,by simp⟩⟩
   ·rw [FJ (DX hj)] at e2
    obtain ⟨u',r',q⟩:=hl j y v' e1 e2 e3
    refine ⟨u',r',?_⟩
    rcases q with ⟨k,e⟩ | ⟨k,c,e,z⟩
    ·refine .inl ⟨k,?_⟩
     have:y≠x:=λ e=>hj (nL hN e1 (e▸hi))
     simp [this,e]
    ·exact .inr ⟨k,c,e,z.sameBut hs (cne y c e)⟩
  ·obtain ⟨w',z⟩:=I.cell y c e
   exact ⟨w',z.sameBut hs (cne y c e)⟩
  ·obtain ⟨e,n,ne,nf,d⟩:=I.pin p hp
   exact ⟨(hs.2 p.1 ne).trans e,n,ne,nf,d⟩
 ·have hfn:X.fn x=true:=by
   rcases hf with z | z
   ·exact z
   ·rw [z] at hk; cases hk
  obtain ⟨c,hc⟩:=I.ok.has x (.inl hk)
  obtain ⟨w',z⟩:=I.cell x c hc
  refine wpAny_storeName_cell I.ok.kind hk hc z (λ h' hc' hs=>?_)
  obtain ⟨oc,hoc,hocd⟩:=id z
  refine h { s with heap:=h' } ⟨I.ok,I.os,I.bare,⟨λ b o e n hb hx=>?_,λ b o e n hb hx=>?_,I.base.free,λ b o e hx=>?_,I.base.tups,I.base.frzs,I.base.tbls⟩,⟨m,hn.sameBut hs (DX (cne x c hc)),λ j y v' e1 e2 e3=>?_⟩,λ y c' e=>?_,I.free,I.freeC,λ p hp=>?_,tracked ⟨oc,hoc,I.freeC x c hc⟩ hs,by simpa using I.len⟩ ⟨c,hs,.inr hc⟩
  ·exact (hs.2 b (Dw (Ds (Dp e) (I.ok.cab x c hfn hc)))).trans (I.base.keep b o e n hb hx)
  ·obtain ⟨sl,e1⟩:=I.base.slot b o e n hb hx
   exact ⟨sl,(hs.2 b (Dw (Ds (Dp e) (I.ok.cab x c hfn hc)))).trans e1⟩
  ·obtain ⟨o',e1⟩:=I.base.there b o e hx
   exact ⟨o',(hs.2 b (Dw (Ds (Dp e) (I.ok.cab x c hfn hc)))).trans e1⟩
  ·by_cases hj:j=i
   ·subst hj
    rw [hi] at e1; cases e1
    rw [EH hiσ] at e2
    cases e2
    exact ⟨u,r,.inr ⟨.inl hk,c,hc,hc'⟩⟩
   ·rw [FJ (DX hj)] at e2
    obtain ⟨u',r',q⟩:=hl j y v' e1 e2 e3
    refine ⟨u',r',?_⟩
    rcases q with q | ⟨k,c',e,z'⟩
    ·exact .inl q
    ·refine .inr ⟨k,c',e,z'.sameBut hs ?_⟩
     rintro rfl
     exact hj (nL hN e1 (I.ok.inj _ _ _ e hc▸hi))
  ·by_cases hcc:c'=c
   ·subst hcc; exact ⟨_,hc'⟩
   ·obtain ⟨w2,z2⟩:=I.cell y c' e
    exact ⟨w2,z2.sameBut hs hcc⟩
  ·obtain ⟨e,n,ne,nf,d⟩:=I.pin p hp
   refine ⟨(hs.2 p.1 ?_).trans e,n,ne,nf,d⟩
   intro q
   rw [q,hoc] at e
   have q':oc=p.2:=D7 e
   exact d w' (by rw [<-q']; exact hocd)
theorem iP {M:Model} {A:Around} {E:Value->Shared->Prop} {i:Nat} {x:Str} {v:V} {u:Value} {Q:Unit->Shared->Prop} (I:Inv X pins σ H s) (hN:X.N.Nodup) (hi:X.N[i]? = some x) (hx:Loc X.env.scope x) (r:RelV v u)
  (h:∀ s',Inv X pins (σ.set i (some v)) H s'->Q () s') (hf:X.fn x=true\/X.env.scope.names.lookup x=some .local:=by first | exact .inl rfl | exact .inr rfl | assumption):wpAny M A (storeName X.env x u) Q E s:=
 pY I hN hi hx r (λ s' I' _=>h s' I') hf
theorem Inv.call' {s':Shared} {ch:List Addr} (I:Inv X pins σ H s) (ho:s'.os=s.os) (u:Un (frs X.stack) ch H H' s.heap s'.heap) (hok:HOk X.prog X.w H' s'.heap) (hg:AllBare s'.gens)
  (hch:∀ b∈ch,(b∈X.ex\/X.s₀.heap.objs.size<=b)/\b≠X.env.locals/\(∀ x c,X.env.cells.lookup x=some c->c≠b)/\∀ p∈X.pn++pins,p.1≠b):Inv X pins σ H' s':=by
 obtain ⟨h',g',d',t',o'⟩:=s'
 have e:o'=s.os:=ho
 subst e
 exact I.call (g':=g') (t':=t') (d':=d') u hok hg hch
end
noncomputable abbrev XK:=Value->Option Addr->Hp->Prop
noncomputable abbrev St:=List (Option V)
noncomputable abbrev VK:=V->Hp->Prop
noncomputable abbrev TE:=St->Hp->VK->Prop
noncomputable abbrev TT:=St->Hp->(Bool->Hp->Prop)->Prop
noncomputable abbrev TA:=St->Hp->(List V->Hp->Prop)->Prop
structure Ends where
 nx:St->Hp->Prop
 rt:VK
 bk:St->Hp->Prop:=λ _ _=>False
 ct:St->Hp->Prop:=λ _ _=>False
noncomputable abbrev TS:=Ends->St->Hp->Prop
def EP (X:Cx) (pins:List (Addr×Obj)) (σ:St) (Q:VK) (u:Value) (s':Shared):Prop:=∃ v H',Inv X pins σ H' s'/\RelV v u/\Q v H'
def TP (X:Cx) (pins:List (Addr×Obj)) (σ:St) (Q:Bool->Hp->Prop) (b:Bool) (s':Shared):Prop:=∃ H',Inv X pins σ H' s'/\Q b H'
def AP (X:Cx) (pins:List (Addr×Obj)) (σ:St) (Q:List V->Hp->Prop) (us:List Value) (s':Shared):Prop:=∃ vs H',Inv X pins σ H' s'/\Vals vs us/\Q vs H'
def SP (X:Cx) (pins:List (Addr×Obj)) (D:Ends) (f:Flow) (s':Shared):Prop:=
 match f with
 | .next=>∃ σ' H',Inv X pins σ' H' s'/\D.nx σ' H'
 | .brk=>∃ σ' H',Inv X pins σ' H' s'/\D.bk σ' H'
 | .cont=>∃ σ' H',Inv X pins σ' H' s'/\D.ct σ' H'
 | .ret u=>∃ v σ' H',Inv X pins σ' H' s'/\RelV v u/\D.rt v H'
def PE (X:Cx) (e:Expr) (t:TE):Prop:=
 ∀ (pins:List (Addr×Obj)) (s:Shared) (σ:St) (H:Hp) (Q:VK),Inv X pins σ H s->t σ H Q->wpAny (model X.prog X.w) X.A (eval e X.env) (EP X pins σ Q) X.xe s
def PT (X:Cx) (e:Expr) (t:TT):Prop:=
 ∀ (pins:List (Addr×Obj)) (s:Shared) (σ:St) (H:Hp) (Q:Bool->Hp->Prop),Inv X pins σ H s->t σ H Q->wpAny (model X.prog X.w) X.A (isTrue e X.env (eval e X.env)) (TP X pins σ Q) X.xe s
def PW (X:Cx) (e:Expr) (t:TT):Prop:=
 ∀ (whole:Sem Value) (pins:List (Addr×Obj)) (s:Shared) (σ:St) (H:Hp) (Q:Bool->Hp->Prop),Inv X pins σ H s->t σ H Q->wpAny (model X.prog X.w) X.A (isTrue e X.env whole) (TP X pins σ Q) X.xe s
theorem PW.pt {X:Cx} {e:Expr} {t:TT} (h:PW X e t):PT X e t:=h _
def PA (X:Cx) (es:List Expr) (t:TA):Prop:=
 ∀ (pos:Pos) (pins:List (Addr×Obj)) (s:Shared) (σ:St) (H:Hp) (Q:List V->Hp->Prop),Inv X pins σ H s->t σ H Q->wpAny (model X.prog X.w) X.A (spliced (backTo pos (starEach es X.env))) (AP X pins σ Q) X.xe s
def PS (X:Cx) (st:Stmt) (t:TS):Prop:=
 ∀ (pins:List (Addr×Obj)) (s:Shared) (σ:St) (H:Hp) (D:Ends),Inv X pins σ H s->t D σ H->wpAny (model X.prog X.w) X.A (exec st X.env) (SP X pins D) X.xe s
def PSs (X:Cx) (st:List Stmt) (t:TS):Prop:=
 ∀ (pins:List (Addr×Obj)) (s:Shared) (σ:St) (H:Hp) (D:Ends),Inv X pins σ H s->t D σ H->wpAny (model X.prog X.w) X.A (execs st X.env) (SP X pins D) X.xe s
theorem thn {α:Type} {t:Sem α} {Q Q':α->Shared->Prop} {M:Model} {A:Around} {E:Value->Shared->Prop} {s:Shared} (h:wpAny M A t Q E s) (hQ:∀ a s,Q a s->Q' a s):wpAny M A t Q' E s:=wpAny_mono h hQ λ _ _ x=>x
section
variable {X:Cx}
theorem bin {a b:Expr} {ta tb:TE} (ha:PE X a ta) (hb:PE X b tb) {pins:List (Addr×Obj)} {s:Shared} {σ:St} {H:Hp} {R:V->V->Hp->Prop} (I:Inv X pins σ H s) (h:ta σ H λ x H1=>tb σ H1 λ y H2=>R x y H2)
  {α:Type} {Q:α->Shared->Prop} {f:Value->Value->Sem α}
  (hf:∀ v u s2 x y H2,Inv X pins σ H2 s2->RelV x v->RelV y u->R x y H2->wpAny (model X.prog X.w) X.A (f v u) Q X.xe s2) :
  wpAny (model X.prog X.w) X.A (eval a X.env) (λ v s₁=>wpAny (model X.prog X.w) X.A (eval b X.env) (λ u s₂=>wpAny (model X.prog X.w) X.A (f v u) Q X.xe s₂) X.xe s₁) X.xe s:=by
 refine thn (ha pins s σ H _ I h) λ v s1 ⟨x,H1,I1,r1,q1⟩=>?_
 refine thn (hb pins s1 σ H1 _ I1 q1) λ u s2 ⟨y,H2,I2,r2,q2⟩=>?_
 exact hf v u s2 x y H2 I2 r1 r2 q2
def Az (i:Nat):TE:=λ σ H Q=>∃ v,σ[i]? = some (some v)/\Q v H
def tC (v:V):TE:=λ _ H Q=>Q v H
theorem vi {i:Nat} {x:Str} {pos:Pos} (hN:X.N[i]? = some x) (hv:Vis X.env.scope x) (hd:(x == ("__debug__" : Str))=false:=by decide) (hcd:(x == ("__classdict__" : Str))=false:=by decide):PE X (.Name x pos) (Az i):=by
 intro pins s σ H Q I h
 obtain ⟨v,e,h⟩:=h
 obtain ⟨m,hn,hl⟩:=I.loc
 obtain ⟨u,r,l⟩:=hl i x v hN e hv
 have fin:EP X pins σ Q u s:=⟨v,H,I,r,h⟩
 rcases l with ⟨hk,hm⟩ | ⟨hk,c,hc,hcell⟩
 ·exact wpAny_Name (wpAny_loadName_local I.ok.kind hk hn hm fin) hd
 ·rcases hk with hk | hk
  ·exact wpAny_Name (wpAny_loadName_cell I.ok.kind hk hc hcell fin) hd
  ·exact wpAny_Name (wpAny_loadName_free I.ok.kind hk hc hcell fin hcd) hd
theorem vj {i j pos}:PE X (.Constant (.int i) j pos) (tC (.int i)):=λ _ _ _ H _ I h=>wpAny_Constant_int ⟨.int i,H,I.tok _,⟨_,rfl⟩,h⟩
theorem AN {b j pos}:PE X (.Constant (.bool b) j pos) (tC (.bl b)):=λ _ _ _ H _ I h=>Constant_bool ⟨.bl b,H,I,rfl,h⟩
theorem yE {j pos}:PE X (.Constant .none j pos) (tC .non):=λ _ _ _ H _ I h=>Constant_none ⟨.non,H,I,rfl,h⟩
theorem yF {x j pos}:PE X (.Constant (.str x) j pos) (tC (.str x)):=λ _ _ _ H _ I h=>Calls.Constant_str ⟨.str x,H,I.tok _,⟨_,rfl⟩,h⟩
def Gl (X:Cx) (x:Str):Prop:=X.env.kindOf x=some .globalImplicit
theorem pZ {E:Value->Shared->Prop} {pins:List (Addr×Obj)} {s:Shared} {σ:St} {H:Hp} {x:Str} {u:Value} {pos:Pos} {Q:Value->Shared->Prop} (I:Inv X pins σ H s) (hg:Gl X x) (hm:X.mg x=some u) (h:Q u s)
  (hd:(x == ("__debug__" : Str))=false:=by decide):wpAny (model X.prog X.w) X.A (eval (.Name x pos) X.env) Q E s:=
 HN I.ok.kind hg (Calls.loadGlobal_global (by rw [I.ok.glob]; exact I.mod.glob.keeps I.bk) hm h) hd
theorem eJ {E:Value->Shared->Prop} {pins:List (Addr×Obj)} {s:Shared} {σ:St} {H:Hp} {x:Str} {u:Value} {pos:Pos} {Q:Value->Shared->Prop} (I:Inv X pins σ H s) (hg:Gl X x) (hm:X.mg x=none) (hv:bootBuiltins x=some u) (h:Q u s)
  (hn:x≠"__name__":=by decide) (hd:(x == ("__debug__" : Str))=false:=by decide):wpAny (model X.prog X.w) X.A (eval (.Name x pos) X.env) Q E s:=by
 obtain ⟨mb,h1,h2⟩:=I.mod.blt
 exact HN I.ok.kind hg (Calls.loadGlobal_builtin (by rw [I.ok.glob]; exact I.mod.glob.keeps I.bk) hm (by rw [I.ok.blt]; exact h1.keeps I.bk) ((h2 x hn).trans hv) h) hd
theorem wb {x:Str} {v:V} {u:Value} {pos:Pos} (hg:Gl X x) (hm:X.mg x=none) (hv:bootBuiltins x=some u) (r:RelV v u) (hn:x≠"__name__":=by decide) (hd:(x == ("__debug__" : Str))=false:=by decide):PE X (.Name x pos) (tC v):=
 λ _ _ _ H _ I h=>eJ I hg hm hv ⟨v,H,I,r,h⟩ hn hd
variable {a b:Expr} {ta tb:TE} {pos:Pos}
def tB (t:TE):TT:=λ σ H Q=>t σ H λ x H1=>∃ c,x=.bl c/\Q c H1
theorem yG {e:Expr} {t:TE} (h:PE X e t) (he:∀ whole,isTrue e X.env whole=(do let v <-whole; standAt e.pos; holding [v] (truthy v)):=by intro _; rfl):PT X e (tB t):=by
 intro pins s σ H Q I hw
 refine isTrue_plain (thn (h pins s σ H _ I hw) λ v s1 ⟨x,H1,I1,r1,q1⟩=>?_) (he _)
 obtain ⟨d,rfl,q⟩:=q1
 cases r1
 exact wpAny_truthy_bool ⟨H1,I1,q⟩
variable {tA tB':TT} {rest:List Expr}
def AO (t u:TT):TT:=λ σ H Q=>t σ H λ c H1=>if c=true then u σ H1 Q else Q false H1
def tOr (t u:TT):TT:=λ σ H Q=>t σ H λ c H1=>if c=true then Q true H1 else u σ H1 Q
def AQ (t:TT):TT:=λ σ H Q=>t σ H λ c H1=>Q (!c) H1
theorem wc (ha:PT X a tA):PW X (.BoolOp .And [a] pos) tA:=by
 intro wh pins s σ H Q I h
 refine isTrue_and (thn (ha pins s σ H Q I h) λ c s1 e=>?_)
 cases c with
 | true=>exact isTrue_and_nil e
 | false=>exact e
theorem yH (ha:PT X a tA):PW X (.BoolOp .Or [a] pos) tA:=by
 intro wh pins s σ H Q I h
 refine isTrue_or (thn (ha pins s σ H Q I h) λ c s1 e=>?_)
 cases c with
 | false=>exact isTrue_or_nil e
 | true=>exact e
theorem yI (ha:PT X a tA) (hb:PW X (.BoolOp .And (b::rest) pos) tB'):PW X (.BoolOp .And (a::b::rest) pos) (AO tA tB'):=by
 intro wh pins s σ H Q I h
 refine isTrue_and (thn (ha pins s σ H _ I h) λ c s1 ⟨H1,I1,q1⟩=>?_)
 cases c with
 | true=>exact hb wh pins s1 σ H1 Q I1 q1
 | false=>exact ⟨H1,I1,q1⟩
theorem AR (ha:PT X a tA) (hb:PW X (.BoolOp .Or (b::rest) pos) tB'):PW X (.BoolOp .Or (a::b::rest) pos) (tOr tA tB'):=by
 intro wh pins s σ H Q I h
 refine isTrue_or (thn (ha pins s σ H _ I h) λ c s1 ⟨H1,I1,q1⟩=>?_)
 cases c with
 | true=>exact ⟨H1,I1,q1⟩
 | false=>exact hb wh pins s1 σ H1 Q I1 q1
theorem yJ (ha:PT X a tA):PT X (.UnaryOp .Not a pos) (AQ tA):=by
 intro pins s σ H Q I h
 exact isTrue_not (ha pins s σ H (λ c H1=>Q (!c) H1) I h)
def wf (ta tb:TE):TE:=λ σ H Q=>ta σ H λ x H1=>∃ c,x=.bl c/\if c=true then tb σ H1 Q else Q (.bl false) H1
theorem yK {op} {t:TE} (h:PE X a t):PE X (.BoolOp op [a] pos) t:=λ pins s σ H Q I hw=>BoolOp_one (h pins s σ H Q I hw)
theorem yL (ha:PE X a ta) (hb:PE X (.BoolOp .And (b::rest) pos) tb):PE X (.BoolOp .And (a::b::rest) pos) (wf ta tb):=by
 intro pins s σ H Q I h
 refine BoolOp_and (thn (ha pins s σ H _ I h) λ v s1 ⟨x,H1,I1,r1,q1⟩=>?_)
 obtain ⟨c,rfl,q1⟩:=q1
 cases r1
 refine wpAny_truthy_bool ?_
 cases c with
 | true=>exact hb pins s1 σ H1 Q I1 q1
 | false=>exact ⟨.bl false,H1,I1,rfl,q1⟩
end
def SqL (K:C7) (H:Hp) (a:Addr) (xs:List V):Prop:=
 Rd H a (.lst xs)\/
  ∃ (o:Obj) (its:Array Value) (n:Nat),K.lookup a=some o/\o.cls=.type "list"/\o.dict=none/\o.data=.seq its n/\its.size<=sizeLine/\Vals xs its.toList
def SqT (K:C7) (H:Hp) (a:Addr) (xs:List V):Prop:=
 Rd H a (.tup xs)\/
  ∃ (o:Obj) (its:Array Value) (n:Nat),K.lookup a=some o/\o.cls=.type "tuple"/\o.data=.seq its n/\its.size<=sizeLine/\Vals xs its.toList
noncomputable def Cv:Value->Option V
 | .none=>some .non
 | .bool b=>some (.bl b)
 | .int i _=>some (.int i)
 | .str x _=>some (.str x)
 | .bytes b _=>some (.byt b)
 | .float b _=>some (.flt b)
 | .ref a=>some (.ref a)
 | .type n=>some (.ty n)
 | _=>none
theorem RelV.abs {x:V} {u:Value} (r:RelV x u):Cv u=some x:=by
 cases x with
 | non=>cases r; rfl
 | bl _=>cases r; rfl
 | int _=>obtain ⟨t,rfl⟩:=r; rfl
 | str _=>obtain ⟨t,rfl⟩:=r; rfl
 | byt _=>obtain ⟨t,rfl⟩:=r; rfl
 | flt _=>obtain ⟨t,rfl⟩:=r; rfl
 | ref _=>cases r; rfl
 | ty _=>cases r; rfl
theorem RelV.inj {x y:V} {u:Value} (r:RelV x u) (q:RelV y u):x=y:=D7 (r.abs.symm.trans q.abs)
theorem Vals.inj:∀ {xs ys:List V} {us:List Value},Vals xs us->Vals ys us->xs=ys
 | _,_,_,.nil,.nil=>rfl
 | _,_,_,.cons r t,.cons r' t'=>by rw [r.inj r',Vals.inj t t']
section
variable {X:Cx} {pins:List (Addr×Obj)} {σ:St} {H:Hp} {s:Shared} {a:Addr} {xs ys:List V}
theorem SqL.of {K:C7} (h:H a=some (.lst xs)):SqL K H a xs:=.inl (.inl h)
theorem SqT.of {K:C7} (h:H a=some (.tup xs)):SqT K H a xs:=.inl (.inl h)
theorem Inv.list (I:Inv X pins σ H s) (h:SqL X.K H a xs):∃ its:List Value,Vals xs its/\PlainL s.heap a its.toArray/\xs.length<=sizeLine:=by
 rcases h with h | ⟨o,its,n,hk,hc,hd,hs,hz,r⟩
 ·obtain ⟨z,its,n,r,e⟩:=h.ok I.hok
  exact ⟨its,r,⟨_,n,e,rfl,rfl,rfl⟩,z⟩
 ·refine ⟨its.toList,r,⟨o,n,I.kIn a o hk,hc,hd,by simpa using hs⟩,?_⟩
  have e:=r.length
  simp only [DT] at e
  lia
theorem Inv.tuple (I:Inv X pins σ H s) (h:SqT X.K H a xs):∃ its:List Value,Vals xs its/\IsTup s.heap a its.toArray/\xs.length<=sizeLine:=by
 rcases h with h | ⟨o,its,n,hk,hc,hs,hz,r⟩
 ·obtain ⟨z,its,r,p⟩:=h.ok I.hok
  exact ⟨its,r,p,z⟩
 ·refine ⟨its.toList,r,⟨o,I.kIn a o hk,hc,n,by simpa using hs⟩,?_⟩
  have e:=r.length
  simp only [DT] at e
  lia
theorem Inv.list_inj (I:Inv X pins σ H s) (h:SqL X.K H a xs) (h':SqL X.K H a ys):xs=ys:=by
 obtain ⟨its,r,⟨o,n,e,_,_,d⟩,_⟩:=I.list h
 obtain ⟨its',r',⟨o',n',e',_,_,d'⟩,_⟩:=I.list h'
 rw [e] at e'; cases e'
 rw [d] at d'
 injection d' with d1 _
 have:its=its':=by simpa using congrArg Lp d1
 subst this
 exact r.inj r'
theorem Inv.tuple_inj (I:Inv X pins σ H s) (h:SqT X.K H a xs) (h':SqT X.K H a ys):xs=ys:=by
 obtain ⟨its,r,⟨o,e,_,n,d⟩,_⟩:=I.tuple h
 obtain ⟨its',r',⟨o',e',_,n',d'⟩,_⟩:=I.tuple h'
 rw [e] at e'; cases e'
 rw [d] at d'
 injection d' with d1 _
 have:its=its':=by simpa using congrArg Lp d1
 subst this
 exact r.inj r'
end
noncomputable abbrev Cx.wish (X:Cx) (E:Value->Shared->Prop):Cx:={ X with xe:=E }
noncomputable abbrev Cx.nox (X:Cx):Cx:=X.wish λ _ _=>False
theorem Cx.Ok.wish {X:Cx} (ok:X.Ok) (E:Value->Shared->Prop):(X.wish E).Ok:=
 ⟨ok.mod,ok.kind,ok.glob,ok.blt,ok.above,ok.inj,ok.has,ok.cab,ok.hd,ok.frames,ok.stk,ok.exf,ok.bs,ok.bsz,ok.noex,ok.exfs,ok.funs,ok.frf⟩
theorem Cx.Ok.unwish {X:Cx} {E:Value->Shared->Prop} (ok:(X.wish E).Ok):X.Ok:=
 ⟨ok.mod,ok.kind,ok.glob,ok.blt,ok.above,ok.inj,ok.has,ok.cab,ok.hd,ok.frames,ok.stk,ok.exf,ok.bs,ok.bsz,ok.noex,ok.exfs,ok.funs,ok.frf⟩
section
variable {X:Cx} {pins:List (Addr×Obj)} {σ:St} {H:Hp} {s:Shared} {E:Value->Shared->Prop}
theorem Inv.wish (I:Inv X pins σ H s) (E:Value->Shared->Prop):Inv (X.wish E) pins σ H s:=⟨I.ok.wish E,I.os,I.bare,I.base,I.loc,I.cell,I.free,I.freeC,I.pin,I.hok,I.len⟩
theorem Inv.unwish (I:Inv (X.wish E) pins σ H s):Inv X pins σ H s:=⟨I.ok.unwish,I.os,I.bare,I.base,I.loc,I.cell,I.free,I.freeC,I.pin,I.hok,I.len⟩
theorem SP.unwish {D:Ends} {f:Flow} {s':Shared} (h:SP (X.wish E) pins D f s'):SP X pins D f s':=by
 cases f with
 | next=>obtain ⟨σ',H',I,q⟩:=h; exact ⟨σ',H',I.unwish,q⟩
 | brk=>obtain ⟨σ',H',I,q⟩:=h; exact ⟨σ',H',I.unwish,q⟩
 | cont=>obtain ⟨σ',H',I,q⟩:=h; exact ⟨σ',H',I.unwish,q⟩
 | ret u=>obtain ⟨v,σ',H',I,r,q⟩:=h; exact ⟨v,σ',H',I.unwish,r,q⟩
theorem PSs.nox {st:List Stmt} {t:TS} (h:PSs X.nox st t):PSs X st t:=λ pins s σ H D I hw=>
 wpAny_mono (h pins s σ H D (I.wish _) hw) (λ _ _ q=>q.unwish) λ _ _ z=>Fa z
end
section
variable {X:Cx} {st:Stmt} {rest:List Stmt} {t u:TS} {e:Expr} {te:TE} {pos:Pos}
def p0:TS:=λ D σ H=>D.nx σ H
def AS (t u:TS):TS:=λ D σ H=>t { D with nx:=u D } σ H
theorem wg:PSs X [] p0:=λ _ _ σ H _ I h=>wpAny_execs_nil ⟨σ,H,I,h⟩
theorem tY (h1:PS X st t) (h2:PSs X rest u):PSs X (st::rest) (AS t u):=by
 intro pins s σ H D I h
 refine wpAny_execs_cons (thn (h1 pins s σ H { D with nx:=u D } I h) λ f s1 q=>?_)
 cases f with
 | next=>
  obtain ⟨σ',H',I',q⟩:=q
  exact h2 pins s1 σ' H' D I' q
 | ret v=>exact q
 | brk=>exact q
 | cont=>exact q
theorem wj (h1:PS X st t):PSs X [st] t:=by
 intro pins s σ H D I h
 refine wpAny_execs_cons (thn (h1 pins s σ H D I h) λ f s1 q=>?_)
 cases f with
 | next=>exact wpAny_execs_nil q
 | ret v=>exact q
 | brk=>exact q
 | cont=>exact q
def wn:TS:=λ D σ H=>D.ct σ H
theorem wo:PS X (.Pass pos) p0:=λ _ _ σ H _ I h=>wpAny_Pass ⟨σ,H,I,h⟩
theorem mQ:PS X (.Continue pos) wn:=λ _ _ σ H _ I h=>wpAny_Continue ⟨σ,H,I,h⟩
theorem Inv.quiet {pins:List (Addr×Obj)} {σ:St} {H:Hp} {s:Shared} (I:Inv X pins σ H s):interactive X.env=false:=by simp [interactive,I.ok.kind]
def wq (te:TE):TS:=λ D σ H=>te σ H λ _ H1=>D.nx σ H1
theorem wu (he:PE X e te) (hs:swapsWith e none pos.line X.env=pure false:=by rfl):PS X (.Expr e pos) (wq te):=by
 intro pins s σ H D I h
 exact wpAny_Expr_any (thn (he pins s σ H _ I h) λ v s1 ⟨x,H1,I1,r1,q1⟩=>⟨σ,H1,I1,q1⟩) I.quiet hs
def AT (te:TE):TS:=λ D σ H=>te σ H D.rt
theorem yM (he:PE X e te):PS X (.Return (some e) pos) (AT te):=by
 intro pins s σ H D I h
 exact wpAny_Return_some (thn (he pins s σ H _ I h) λ v s1 ⟨x,H1,I1,r1,q1⟩=>⟨x,σ,H1,I1,r1,q1⟩)
def AU (c:TT) (t u:TS):TS:=λ D σ H=>c σ H λ b H1=>if b=true then t D σ H1 else u D σ H1
theorem AV {c:Expr} {a b:List Stmt} {tc:TT} (hc:PT X c tc) (ha:PSs X a t) (hb:PSs X b u):PS X (.If c a b pos) (AU tc t u):=by
 intro pins s σ H D I h
 refine wpAny_If (thn (hc pins s σ H _ I h) λ d s1 ⟨H1,I1,q1⟩=>?_)
 cases d with
 | true=>exact ha pins s1 σ H1 D I1 q1
 | false=>exact hb pins s1 σ H1 D I1 q1
end
noncomputable abbrev TG:=V->St->Hp->(St->Hp->Prop)->Prop
noncomputable abbrev TGs:=List V->St->Hp->(St->Hp->Prop)->Prop
def PG (X:Cx) (target:Expr) (t:TG):Prop:=
 ∀ (pins:List (Addr×Obj)) (s:Shared) (σ:St) (H:Hp) (v:V) (u:Value) (Q:St->Hp->Prop),Inv X pins σ H s->RelV v u->t v σ H Q->
  wpAny (model X.prog X.w) X.A (assign target X.env u) (λ _ s'=>∃ σ' H',Inv X pins σ' H' s'/\Q σ' H') X.xe s
def PGs (X:Cx) (ts:List Expr) (t:TGs):Prop:=
 ∀ (pins:List (Addr×Obj)) (s:Shared) (σ:St) (H:Hp) (vs:List V) (us:List Value) (Q:St->Hp->Prop),Inv X pins σ H s->Vals vs us->t vs σ H Q->
  wpAny (model X.prog X.w) X.A (assignInOrder ((assignEach ts X.env).map (·.2)) us) (λ _ s'=>∃ σ' H',Inv X pins σ' H' s'/\Q σ' H') X.xe s
noncomputable abbrev wv:=V->V->V->Hp->(Hp->Prop)->Prop
def AW (X:Cx) (t:wv):Prop:=
 ∀ (pins:List (Addr×Obj)) (s:Shared) (σ:St) (H:Hp) (o i v:V) (ov iv u:Value) (Q:Hp->Prop),Inv X pins σ H s->RelV o ov->RelV i iv->RelV v u->t o i v H Q->
  wpAny (model X.prog X.w) X.A (setItem ov iv u) (λ _ s'=>∃ H',Inv X pins σ H' s'/\Q H') X.xe s
noncomputable abbrev TIp:=V->V->Hp->VK->Prop
def PIp (X:Cx) (op:Operator) (t:TIp):Prop:=
 ∀ (pins:List (Addr×Obj)) (s:Shared) (σ:St) (H:Hp) (x y:V) (v u:Value) (Q:VK),Inv X pins σ H s->RelV x v->RelV y u->t x y H Q->
  wpAny (model X.prog X.w) X.A (inplaceOp op v u) (EP X pins σ Q) X.xe s
section
variable {X:Cx} {pos:Pos}
def eO (i:Nat):TG:=λ v σ H Q=>Q (σ.set i (some v)) H
theorem ww {i:Nat} {x:Str} (hN:X.N.Nodup) (hi:X.N[i]? = some x) (hx:Loc X.env.scope x) (hf:X.fn x=true\/X.env.scope.names.lookup x=some .local:=by first | exact .inl rfl | exact .inr rfl | assumption):PG X (.Name x pos) (eO i):=by
 intro pins s σ H v u Q I r h
 exact wpAny_assign_Name (iP I hN hi hx r (λ s' I'=>⟨_,H,I',h⟩) hf)
noncomputable def yN:TGs:=λ vs σ H Q=>vs=[]/\Q σ H
noncomputable def iJ (t:TG) (u:TGs):TGs:=λ vs σ H Q=>∃ v r,vs=v::r/\t v σ H λ σ' H'=>u r σ' H' Q
theorem wx:PGs X [] yN:=by
 intro pins s σ H vs us Q I r h
 obtain ⟨e,h⟩:=h
 subst e
 cases r
 exact assignInOrder_nil ⟨σ,H,I,h⟩
theorem tZ {e:Expr} {es:List Expr} {t:TG} {u:TGs} (h1:PG X e t) (h2:PGs X es u)
  (hs:(assignEach (e::es) X.env).map (·.2)=assign e X.env::(assignEach es X.env).map (·.2):=by rfl):PGs X (e::es) (iJ t u):=by
 intro pins s σ H vs us Q I r h
 obtain ⟨v,vr,e1,h⟩:=h
 subst e1
 cases r with
 | cons r rr=>
  rw [hs]
  refine assignInOrder_cons (thn (h1 pins s σ H _ _ _ I r h) λ _ s1 ⟨σ1,H1,I1,q1⟩=>?_)
  exact h2 pins s1 σ1 H1 _ _ Q I1 rr q1
def AA (K:C7) (n:Nat) (t:TGs):TG:=λ v σ H Q=>∃ a xs,v=.ref a/\SqT K H a xs/\xs.length=n/\t xs σ H Q
theorem yO {es:List Expr} {k:Nat} {t:TGs} {n:Nat} (hc:X.calm=true) (h:PGs X es t)
  (hn:(assignEach es X.env).length=n:=by rfl) (hst:(assignEach es X.env).findIdx? (·.1)=none:=by rfl):PG X (.Tuple es k pos) (AA X.K n t):=by
 intro pins s σ H v u Q I r hw
 obtain ⟨a,xs,e1,hq,hl,hw⟩:=hw
 subst e1
 cases r
 obtain ⟨its,rv,ht,hz⟩:=I.tuple hq
 refine assign_Tuple_tuple (I.ok.hd hc) ht (by simp [hn,<-hl,rv.length]) hst λ h' hx=>?_
 have I1:Inv X pins σ H { s with heap:=h' }:=I.kept (t':=s.toks) λ b o e=>hx b o (Dw (Dp e)) e
 exact h pins _ σ H xs _ Q I1 (by simpa using rv) hw
def AX (to ti:TE) (t:wv):TG:=λ v σ H Q=>to σ H λ o H1=>ti σ H1 λ i H2=>t o i v H2 λ H3=>Q σ H3
theorem yP {o i:Expr} {to ti:TE} {t:wv} (ho:PE X o to) (hi:PE X i ti) (hs:AW X t)
  (ha:∀ v,assign (.Subscript o i pos) X.env v=(do
   let ov <-holding [v] (eval o X.env)
   let iv <-holding [v,ov] (eval i X.env)
   standAt pos
   holding [v,ov,iv] (setItem ov iv v)
   release [v,ov,iv] []):=by intro _; rfl):PG X (.Subscript o i pos) (AX to ti t):=by
 intro pins s σ H v u Q I r h
 rw [ha]
 refine wpAny_bind (wpAny_holding (thn (ho pins s σ H _ I h) λ ov s1 ⟨x,H1,I1,r1,q1⟩=>?_))
 refine wpAny_bind (wpAny_holding (thn (hi pins s1 σ H1 _ I1 q1) λ iv s2 ⟨y,H2,I2,r2,q2⟩=>?_))
 refine wpAny_bind (wpAny_standAt (wpAny_bind (wpAny_holding (thn (hs pins s2 σ H2 x y v ov iv u _ I2 r1 r2 r q2) λ _ s3 ⟨H3,I3,q3⟩=>?_))))
 exact wpAny_release ⟨σ,H3,I3,q3⟩
def t5 (te:TE) (g:TG):TS:=λ D σ H=>te σ H λ x H1=>g x σ H1 D.nx
theorem p6 {tg e:Expr} {te:TE} {g:TG} (he:PE X e te) (hg:PG X tg g) (hs:swapsWithSole [tg] e pos.line X.env=pure false:=by rfl) (hw:swappedStores [tg] e X.env=pure none:=by rfl)
  (h1:(assignEach [tg] X.env).map (·.2)=[assign tg X.env]:=by rfl):PS X (.Assign [tg] e pos) (t5 te g):=by
 intro pins s σ H D I h
 refine wpAny_Assign_stores (thn (he pins s σ H _ I h) λ v s1 ⟨x,H1,I1,r1,q1⟩=>?_) hs hw
 rw [h1]
 exact thn (hg pins s1 σ H1 x v _ I1 r1 q1) λ _ s2 q=>q
theorem yQ {i:Nat} {x:Str} {e:Expr} {te:TE} {pos':Pos} (hN:X.N.Nodup) (hi:X.N[i]? = some x) (hx:Loc X.env.scope x) (he:PE X e te) (hs:swapsWith e (some (.Name x pos')) pos.line X.env=pure false:=by rfl) (hf:X.fn x=true\/X.env.scope.names.lookup x=some .local:=by first | exact .inl rfl | exact .inr rfl | assumption) :
  PS X (.Assign [.Name x pos'] e pos) (t5 te (eO i)):=by
 intro pins s σ H D I h
 refine wpAny_Assign_Name (thn (he pins s σ H _ I h) λ v s1 ⟨y,H1,I1,r1,q1⟩=>?_) hs
 exact iP I1 hN hi hx r1 (λ s2 I2=>⟨_,H1,I2,q1⟩) hf
def AY (i:Nat) (te:TE) (ti:TIp):TS:=λ D σ H=>∃ x,σ[i]? = some (some x)/\te σ H λ y H1=>ti x y H1 λ z H2=>D.nx (σ.set i (some z)) H2
theorem yR {i:Nat} {x:Str} {e:Expr} {te:TE} {op:Operator} {ti:TIp} {pos':Pos} (hN:X.N.Nodup) (hi:X.N[i]? = some x) (hx:Loc X.env.scope x) (he:PE X e te) (ho:PIp X op ti) (hf:X.fn x=true\/X.env.scope.names.lookup x=some .local:=by first | exact .inl rfl | exact .inr rfl | assumption) :
  PS X (.AugAssign (.Name x pos') op e pos) (AY i te ti):=by
 intro pins s σ H D I h
 obtain ⟨v,e1,h⟩:=h
 obtain ⟨m,hn,hl⟩:=I.loc
 have vis:Vis X.env.scope x:=by rcases hx with k | k; exact .inl k; exact .inr (.inl k)
 obtain ⟨u,r,l⟩:=hl i x v hi e1 vis
 refine wpAny_AugAssign_Name ?_
 have go:wpAny (model X.prog X.w) X.A (eval e X.env) (λ w s₂=>wpAny (model X.prog X.w) X.A (inplaceOp op u w) (λ r s₃=>wpAny (model X.prog X.w) X.A (storeName X.env x r) (λ _=>SP X pins D .next) X.xe s₃) X.xe s₂) X.xe s:=by
  refine thn (he pins s σ H _ I h) λ w s1 ⟨y,H1,I1,r1,q1⟩=>?_
  refine thn (ho pins s1 σ H1 v y u w _ I1 r r1 q1) λ z s2 ⟨zv,H2,I2,r2,q2⟩=>?_
  exact iP I2 hN hi hx r2 (λ s3 I3=>⟨_,H2,I3,q2⟩) hf
 rcases l with ⟨hk,hm⟩ | ⟨hk,c,hc,hcell⟩
 ·exact wpAny_loadName_local I.ok.kind hk hn hm go
 ·rcases hk with hk | hk
  ·exact wpAny_loadName_cell I.ok.kind hk hc hcell go
  ·rcases hx with k | k
   ·have:X.env.scope.names.lookup x=some .free:=hk
    rw [k] at this; cases this
   ·have:X.env.scope.names.lookup x=some .free:=hk
    rw [k] at this; cases this
def wy (to ti te:TE) (tget:V->V->Hp->VK->Prop) (tip:TIp) (tset:wv):TS:=λ D σ H=>to σ H λ o H1=>ti σ H1 λ i H2=>tget o i H2 λ x H3=>te σ H3 λ y H4=>tip x y H4 λ z H5=>tset o i z H5 λ H6=>D.nx σ H6
def BX (X:Cx) (t:V->V->Hp->VK->Prop):Prop:=
 ∀ (pins:List (Addr×Obj)) (s:Shared) (σ:St) (H:Hp) (o i:V) (ov iv:Value) (Q:VK),Inv X pins σ H s->RelV o ov->RelV i iv->t o i H Q->
  wpAny (model X.prog X.w) X.A (getItem ov iv) (EP X pins σ Q) X.xe s
theorem wz {o i e:Expr} {to ti te:TE} {tget:V->V->Hp->VK->Prop} {tip:TIp} {tset:wv} {op:Operator} {tpos:Pos} (ho:PE X o to) (hi:PE X i ti) (hg:BX X tget) (he:PE X e te) (hp:PIp X op tip) (hs:AW X tset)
  (ha:∀ ov iv new,augStore i ov iv new=(do holding [new,ov,iv] (setItem ov iv new); release [new,ov,iv] []; pure .next):=by intros; rfl):PS X (.AugAssign (.Subscript o i tpos) op e pos) (wy to ti te tget tip tset):=by
 intro pins s σ H D I h
 refine wpAny_AugAssign_SubscriptAny (thn (ho pins s σ H _ I h) λ ov s1 ⟨x1,H1,I1,r1,q1⟩=>?_) ha
 refine thn (hi pins s1 σ H1 _ I1 q1) λ iv s2 ⟨x2,H2,I2,r2,q2⟩=>?_
 refine thn (hg pins s2 σ H2 x1 x2 ov iv _ I2 r1 r2 q2) λ old s3 ⟨x3,H3,I3,r3,q3⟩=>?_
 refine thn (he pins s3 σ H3 _ I3 q3) λ v s4 ⟨x4,H4,I4,r4,q4⟩=>?_
 refine thn (hp pins s4 σ H4 x3 x4 old v _ I4 r3 r4 q4) λ new s5 ⟨x5,H5,I5,r5,q5⟩=>?_
 exact thn (hs pins s5 σ H5 x1 x2 x5 ov iv new _ I5 r1 r2 r5 q5) λ _ s6 ⟨H6,I6,q6⟩=>⟨σ,H6,I6,q6⟩
noncomputable def ipI (f:Int->Int->Int):TIp:=λ x y H Q=>∃ i j,x=.int i/\y=.int j/\Q (.int (f i j)) H
theorem yS:PIp X .Add (ipI λ i j=>i+j):=by
 intro pins s σ H x y v u Q I r1 r2 h
 obtain ⟨i,j,e1,e2,q⟩:=h
 subst e1; subst e2
 obtain ⟨t,rfl⟩:=r1
 obtain ⟨t',rfl⟩:=r2
 exact iadd_int ⟨.int _,H,I.tok _,⟨_,rfl⟩,q⟩
end
section
variable {X:Cx} {pos:Pos}
def vm (c:TT) (tb:TS):TS:=λ D σ H=>∃ W:Nat->St->Hp->Prop,(∃ m,W m σ H)/\∀ m σ H,W m σ H->
 c σ H λ b H1=>if b=true then ∃ N:St->Hp->Prop,(∀ σ' H',N σ' H'->∃ m',m'<m/\W m' σ' H')/\tb { D with nx:=N,ct:=N,bk:=D.nx } σ H1 else D.nx σ H1
theorem t6 {c:Expr} {body:List Stmt} {tc:TT} {tb:TS} (hp:PassesOwn (model X.prog X.w) X.A X.env X.xe) (hc:PT X c tc) (hb:PSs X body tb):PS X (.While c body [] pos) (vm tc tb):=by
 intro pins s σ H D I h
 obtain ⟨W,⟨m0,w0⟩,turn⟩:=h
 refine wpAny_While (codeAny_whileLoop (λ n s'=>∃ σ' H',Inv X pins σ' H' s'/\W n σ' H') ?_ m0 ⟨σ,H,I,w0⟩)
 rintro n s1 ⟨σ1,H1,I1,w1⟩
 refine wpAny_passesOwn hp (thn (hc pins s1 σ1 H1 _ I1 (turn n σ1 H1 w1)) λ b s2 ⟨H2,I2,q2⟩=>?_)
 cases b with
 | true=>
  obtain ⟨N,hN,q2⟩:=q2
  rw [if_pos rfl]
  refine wpAny_passesOwn hp (thn (hb pins s2 σ1 H2 _ I2 q2) λ f s3 q3=>?_)
  cases f with
  | next=>
   obtain ⟨σ3,H3,I3,n3⟩:=q3
   obtain ⟨m',hm,w3⟩:=hN σ3 H3 n3
   exact ⟨m',hm,σ3,H3,I3,w3⟩
  | cont=>
   obtain ⟨σ3,H3,I3,n3⟩:=q3
   obtain ⟨m',hm,w3⟩:=hN σ3 H3 n3
   exact ⟨m',hm,σ3,H3,I3,w3⟩
  | brk=>exact q3
  | ret v=>exact q3
 | false=>
  rw [if_neg Dt]
  exact wpAny_execs_nil ⟨σ1,H2,I2,q2⟩
end
structure It where
 go:Nat->Hp->Prop
 yld:Nat->Hp->V->Hp->Prop
 stop:Nat->Hp->Prop
def pV (X:Cx) (pins:List (Addr×Obj)) (H:Hp) (b:Addr):Prop:=
 H b=none/\b≠X.env.locals/\b∉X.fs/\(b∈X.ex\/X.s₀.heap.objs.size<=b)/\(∀ x c,X.env.cells.lookup x=some c->c≠b)/\∀ p∈X.pn++pins,p.1≠b
theorem Inv.fpOk {X:Cx} {pins:List (Addr×Obj)} {σ:St} {H H':Hp} {s:Shared} {b:Addr} (I:Inv X pins σ H s) (hb:s.heap.objs.size<=b) (hn:H' b=none):pV X pins H' b:=by
 refine ⟨hn,E8 (Ds I.lt hb),I.nofs hb,.inr (D9 I.sz hb),λ x c e z=>?_,λ p hp z=>?_⟩
 ·obtain ⟨v,q⟩:=I.cell x c e
  exact absurd (Ds q.lt (by rw [z]; exact hb)) (EM _)
 ·exact absurd (Ds (Dp (I.pin p hp).1) (by rw [z]; exact hb)) (EM _)
structure Turn (P:Program) (w:World) (K:C7) (tg:Expr) (J:It) (fp:List Addr) (it:Addr) (tn:Nat->Heap->Prop):Prop where
 mem:it∈fp
 obj:∀ i h,tn i h->∀ b∈fp,∃ o,h.get? b=some o/\∀ v,o.data≠.cell v
 keep:∀ i h h',tn i h->(∀ b∈fp,∀ o,h.get? b=some o->h'.get? b=some o)->tn i h'
 item:∀ (X:Cx),X.prog=P->X.w=w->X.K=K->X.calm=true->∀ (i:Nat) (pins:List (Addr×Obj)) (s:Shared) (σ:St) (H:Hp) (E:Value->Shared->Prop),Inv X pins σ H s->(∀ b∈fp,pV X pins H b)->tn i s.heap->J.go i H->
  wpAny (model P w) X.A (pyNext (.ref it)) (λ r s1=>∃ u,r=some u/\
   wpAny (model P w) X.A (letOwnedTupleGo tg (.ref it) u) (λ _ s2=>∃ x H',Inv X pins σ H' s2/\RelV x u/\J.yld i H x H'/\tn (i+1) s2.heap/\∀ b∈fp,H' b=none) E s1) E s
 done:∀ (X:Cx),X.prog=P->X.w=w->X.K=K->X.calm=true->∀ (i:Nat) (pins:List (Addr×Obj)) (s:Shared) (σ:St) (H:Hp) (E:Value->Shared->Prop),Inv X pins σ H s->(∀ b∈fp,pV X pins H b)->tn i s.heap->J.stop i H->
  wpAny (model P w) X.A (pyNext (.ref it)) (λ r s1=>r=none/\Inv X pins σ H s1) E s
 self:∀ (A:Around) (i:Nat) (s:Shared) (Q:Value->Shared->Prop) (E:Value->Shared->Prop),tn i s.heap->Q (.ref it) s->wpAny (model P w) A (pyIter (.ref it)) Q E s
noncomputable abbrev TI:=St->Hp->(It->Hp->Prop)->Prop
def PIE (X:Cx) (pins:List (Addr×Obj)) (σ:St) (tg:Expr) (R:It->Hp->Prop) (itv:Value) (s2:Shared):Prop:=
 ∃ (it:Addr) (fp:List Addr) (tn:Nat->Heap->Prop) (J:It) (H':Hp),itv=.ref it/\Inv X pins σ H' s2/\Turn X.prog X.w X.K tg J fp it tn/\tn 0 s2.heap/\(∀ b∈fp,pV X pins H' b)/\R J H'
def PI (X:Cx) (tg iter:Expr) (wi:TI):Prop:=
 ∀ (pins:List (Addr×Obj)) (s:Shared) (σ:St) (H:Hp) (R:It->Hp->Prop),Inv X pins σ H s->wi σ H R->
  wpAny (model X.prog X.w) X.A (eval iter X.env) (λ v s1=>wpAny (model X.prog X.w) X.A (pyIter v) (PIE X pins σ tg R) X.xe s1) X.xe s
theorem t7 {M:Model} {A:Around} {E:Value->Shared->Prop} {s:Shared} {tg:Expr} {it:Addr} {u:Value} {o:Obj} {n:String} {vs:Array Value} {Q:Unit->Shared->Prop} (ho:s.heap.get? it=some o) (hc:o.cls=.type n) (hd:o.data=.fields vs)
    (hn:["enumerate","zip","dict_itemiterator","dict_reverseitemiterator","odict_iterator","itertools.zip_longest","itertools.pairwise"].contains n=false) (hQ:Q () s):wpAny M A (letOwnedTupleGo tg (.ref it) u) Q E s:=by
  unfold letOwnedTupleGo
  cases tg<;>first
    | exact wpAny_pure hQ
    | (cases u<;>first
        | exact wpAny_pure hQ
        | (refine wpAny_bind (wpAny_load ho ?_)
           rw [hc,hd]
           show wpAny M A (if (["enumerate","zip","dict_itemiterator","dict_reverseitemiterator","odict_iterator","itertools.zip_longest","itertools.pairwise"].contains n && vs[0]? == some (rawInt _))=true then _ else _) Q E s
           rw [if_neg (by intro h; rw [hn,KI] at h; cases h)]
           exact wpAny_pure hQ))
def Itl (K:C7) (a:Addr):It:=
 ⟨λ i H=>∃ xs x,SqL K H a xs/\xs[i]? = some x,λ i H x H'=>H'=H/\∀ xs,SqL K H a xs->xs[i]? = some x,λ i H=>∃ xs,SqL K H a xs/\xs.length<=i⟩
def Itt (K:C7) (a:Addr):It:=
 ⟨λ i H=>∃ xs x,SqT K H a xs/\xs[i]? = some x,λ i H x H'=>H'=H/\∀ xs,SqT K H a xs->xs[i]? = some x,λ i H=>∃ xs,SqT K H a xs/\xs.length<=i⟩
def Itr (lo:Int) (n:Nat):It:=⟨λ i _=>i<n,λ i H x H'=>H'=H/\x=.int (lo+i),λ i _=>n<=i⟩
theorem p7 {P:Program} {w:World} {K:C7} {tg:Expr} (a it:Addr):Turn P w K tg (Itl K a) [it] it (λ i h=>h.IsListIter it a i) where
 mem:=by simp
 obj:=λ i h st b hb=>by
  have e:b=it:=by simpa using hb
  subst e
  obtain ⟨o,e,c,d⟩:=st
  exact ⟨o,e,λ v z=>by rw [d] at z; cases z⟩
 keep:=λ i h h' st k=>st.at λ o e=>k it (by simp) o e
 item:=by
  intro X hP hw hK hc i pins s σ H E I hf st hg
  subst hP hw hK
  obtain ⟨xs,x,hq,hx⟩:=hg
  obtain ⟨its,rv,p,hz⟩:=I.list hq
  obtain ⟨u,hu,ru⟩:=rv.get hx
  obtain ⟨f0,f1,f2,f3,f4,f5⟩:=hf it (by simp)
  refine wpAny_pyNext_list_item st p.isList (x:=u) (by simpa using hu) λ h' st' sb=>?_
  have I1:Inv X pins σ H { s with heap:=h' }:=I.turned (t':=s.toks) (λ b o hb e=>(sb.2 b hb).trans e) f0 f1 f3 f4 f5
  obtain ⟨o,e,c,d⟩:=id st'
  exact ⟨u,rfl,t7 (s:={ s with heap:=h' }) e c d (by decide) ⟨x,H,I1,ru,⟨rfl,λ ys hy=>by rw [I.list_inj hy hq]; exact hx⟩,st',λ b hb=>(hf b hb).1⟩⟩
 done:=by
  intro X hP hw hK hc i pins s σ H E I hf st hg
  subst hP hw hK
  obtain ⟨xs,hq,hx⟩:=hg
  obtain ⟨its,rv,p,hz⟩:=I.list hq
  obtain ⟨f0,f1,f2,f3,f4,f5⟩:=hf it (by simp)
  have hl:=rv.length
  exact wpAny_pyNext_list_end (I.ok.hd hc) st p.isList (by simp; lia) λ h' eb=>⟨rfl,I.turned (t':=s.toks) (λ b o hb e=>eb b o hb e) f0 f1 f3 f4 f5⟩
 self:=λ _ _ _ _ _ st h=>wpAny_pyIter_listiter st h
theorem oQ {P:Program} {w:World} {K:C7} {tg:Expr} (a it:Addr):Turn P w K tg (Itt K a) [it] it (λ i h=>h.IsTupleIter it a i) where
 mem:=by simp
 obj:=λ i h st b hb=>by
  have e:b=it:=by simpa using hb
  subst e
  obtain ⟨o,e,c,d⟩:=st
  exact ⟨o,e,λ v z=>by rw [d] at z; cases z⟩
 keep:=λ i h h' st k=>st.at λ o e=>k it (by simp) o e
 item:=by
  intro X hP hw hK hc i pins s σ H E I hf st hg
  subst hP hw hK
  obtain ⟨xs,x,hq,hx⟩:=hg
  obtain ⟨its,rv,p,hz⟩:=I.tuple hq
  obtain ⟨u,hu,ru⟩:=rv.get hx
  obtain ⟨f0,f1,f2,f3,f4,f5⟩:=hf it (by simp)
  refine wpAny_pyNext_tuple_item st (show s.heap.IsTuple a its.toArray from p) (x:=u) (by simpa using hu) λ h' st' sb=>?_
  have I1:Inv X pins σ H { s with heap:=h' }:=I.turned (t':=s.toks) (λ b o hb e=>(sb.2 b hb).trans e) f0 f1 f3 f4 f5
  obtain ⟨o,e,c,d⟩:=id st'
  exact ⟨u,rfl,t7 (s:={ s with heap:=h' }) e c d (by decide) ⟨x,H,I1,ru,⟨rfl,λ ys hy=>by rw [I.tuple_inj hy hq]; exact hx⟩,st',λ b hb=>(hf b hb).1⟩⟩
 done:=by
  intro X hP hw hK hc i pins s σ H E I hf st hg
  subst hP hw hK
  obtain ⟨xs,hq,hx⟩:=hg
  obtain ⟨its,rv,p,hz⟩:=I.tuple hq
  obtain ⟨f0,f1,f2,f3,f4,f5⟩:=hf it (by simp)
  have hl:=rv.length
  exact wpAny_pyNext_tuple_end (I.ok.hd hc) st (show s.heap.IsTuple a its.toArray from p) (by simp; lia) λ h' eb=>⟨rfl,I.turned (t':=s.toks) (λ b o hb e=>eb b o hb e) f0 f1 f3 f4 f5⟩
 self:=λ _ _ _ _ _ st h=>wpAny_pyIter_tupleiter st h
theorem oR {P:Program} {w:World} {K:C7} {tg:Expr} (it:Addr) (lo:Int) (n:Nat):Turn P w K tg (Itr lo n) [it] it (λ i h=>IsRangeIter h it (lo+(i:Nat)*1) ((n:Int) - (i:Nat)) 1) where
 mem:=by simp
 obj:=λ i h st b hb=>by
  have e:b=it:=by simpa using hb
  subst e
  exact ⟨_,st,λ v z=>by
   have z':LY _=Mn v:=z
   cases z'⟩
 keep:=λ i h h' st k=>k it (by simp) _ st
 item:=by
  intro X hP hw hK hc i pins s σ H E I hf st hg
  subst hP hw hK
  obtain ⟨f0,f1,f2,f3,f4,f5⟩:=hf it (by simp)
  have W:=LZ (prog:=X.prog) (w:=X.w) (I.ok.hd hc) it lo 1 n
  refine W.item i s _ _ hg st λ v h' tk hv st' kk=>?_
  obtain ⟨t,rfl⟩:=hv
  have I1:Inv X pins σ H { s with heap:=h',toks:=tk }:=I.turned (λ b o hb e=>kk b o (by simpa using hb) e) f0 f1 f3 f4 f5
  refine ⟨_,rfl,t7 (s:={ s with heap:=h',toks:=tk }) (n:="range_iterator") st' rfl rfl (by decide) ⟨.int (lo+i),H,I1,⟨t,?_⟩,⟨rfl,rfl⟩,st',λ b hb=>(hf b hb).1⟩⟩
  rw [L4]
 done:=by
  intro X hP hw hK hc i pins s σ H E I hf st hg
  subst hP hw hK
  obtain ⟨f0,f1,f2,f3,f4,f5⟩:=hf it (by simp)
  exact wpAny_pyNext_range_end (I.ok.hd hc) st (by have:n<=i:=hg; lia) λ h' eb=>⟨rfl,I.turned (t':=s.toks) (λ b o hb e=>eb b o hb e) f0 f1 f3 f4 f5⟩
 self:=λ _ _ _ _ _ st h=>wpAny_pyIter_rangeiter st h
section
variable {X:Cx} {tg:Expr}
def wA (K:C7) (tl:TE):TI:=λ σ H R=>tl σ H λ x H1=>∃ a,x=.ref a/\(∃ xs,SqL K H1 a xs)/\R (Itl K a) H1
def AZ (K:C7) (tl:TE):TI:=λ σ H R=>tl σ H λ x H1=>∃ a,x=.ref a/\(∃ xs,SqT K H1 a xs)/\R (Itt K a) H1
theorem wB {l:Expr} {tl:TE} (hl:PE X l tl):PI X tg l (wA X.K tl):=by
 intro pins s σ H R I h
 refine thn (hl pins s σ H _ I h) λ v s1 ⟨x,H1,I1,r1,q1⟩=>?_
 obtain ⟨a,e,⟨xs,hq⟩,q⟩:=q1
 subst e
 cases r1
 obtain ⟨its,rv,p,hz⟩:=I1.list hq
 refine wpAny_pyIter_list p.isList ?_
 refine ⟨s1.heap.objs.size,[s1.heap.objs.size],_,_,H1,rfl,I1.kept (t':=s1.toks) λ b o e=>Dd _ e,p7 a _,⟨_,DB _ rfl,rfl,rfl⟩,λ b hb=>?_,q⟩
 have e:b=s1.heap.objs.size:=by simpa using hb
 subst e
 exact I1.fpOk (C8 _) (I1.hok.fresh (C8 _))
theorem yT {l:Expr} {tl:TE} (hl:PE X l tl):PI X tg l (AZ X.K tl):=by
 intro pins s σ H R I h
 refine thn (hl pins s σ H _ I h) λ v s1 ⟨x,H1,I1,r1,q1⟩=>?_
 obtain ⟨a,e,⟨xs,hq⟩,q⟩:=q1
 subst e
 cases r1
 obtain ⟨its,rv,p,hz⟩:=I1.tuple hq
 refine wpAny_pyIter_tuple (show s1.heap.IsTuple a its.toArray from p) ?_
 refine ⟨s1.heap.objs.size,[s1.heap.objs.size],_,_,H1,rfl,I1.kept (t':=s1.toks) λ b o e=>Dd _ e,oQ a _,⟨_,DB _ rfl,rfl,rfl⟩,λ b hb=>?_,q⟩
 have e:b=s1.heap.objs.size:=by simpa using hb
 subst e
 exact I1.fpOk (C8 _) (I1.hok.fresh (C8 _))
theorem t8 {pins:List (Addr×Obj)} {σ:St} {H:Hp} {s:Shared} {R:It->Hp->Prop} {E:Value->Shared->Prop} {lo hi:Int} {t u v:Tok} {tk:Nat} (I:Inv X pins σ H s) (h1:-(2 ^ 62)<=lo) (h2:lo<2 ^ 62) (h3:-(2 ^ 62)<=hi) (h4:hi<2 ^ 62)
  (q:R (Itr lo (hi - lo).toNat) H):wpAny (model X.prog X.w) X.A (pyIter (.ref s.heap.objs.size)) (PIE X pins σ tg R) E { s with heap:=s.heap.push { cls:=.type "range",data:=.fields #[.int lo t,.int hi u,.int 1 v] },toks:=tk }:=by
 refine wpAny_pyIter_range (Kd ..) (small_one h1 h2 h3 h4) ?_
 have I1:Inv X pins σ H { s with heap:=s.heap.push { cls:=.type "range",data:=.fields #[.int lo t,.int hi u,.int 1 v] },toks:=tk }:=I.kept λ b o e=>Dd _ e
 refine ⟨(s.heap.push { cls:=.type "range",data:=.fields #[.int lo t,.int hi u,.int 1 v] }).objs.size,[(s.heap.push { cls:=.type "range",data:=.fields #[.int lo t,.int hi u,.int 1 v] }).objs.size],_,_,H,rfl,
  I1.kept (t':=tk) λ b o e=>Dd _ e,oR _ lo (hi - lo).toNat,?_,λ b hb=>?_,q⟩
 ·have e1:lo+((0:Nat):Int)*1=lo:=by simp
  have e2:(((hi - lo).toNat:Nat):Int) - ((0:Nat):Int)=FY lo hi 1:=by rw [rangeSize_one]; split<;>lia
  show IsRangeIter _ _ (lo+((0:Nat):Int)*1) ((((hi - lo).toNat:Nat):Int) - ((0:Nat):Int)) 1
  rw [e1,e2]
  exact DB _ rfl
 ·have e:b=(s.heap.push { cls:=.type "range",data:=.fields #[.int lo t,.int hi u,.int 1 v] }).objs.size:=by simpa using hb
  subst e
  exact I1.fpOk (C8 _) (I1.hok.fresh (C8 _))
def wC (ta:TA):TI:=λ σ H R=>ta σ H λ vs H1=>∃ j:Int,vs=[.int j]/\-(2 ^ 62)<=j/\j<2 ^ 62/\R (Itr 0 j.toNat) H1
theorem p8 {a:Expr} {ta:TA} {p pos:Pos} (hg:Gl X "range") (hm:X.mg "range" = none) (ha:PA X [a] ta) (hs:starEach [a] X.env=[(false,eval a X.env)]:=by rfl):PI X tg (.Call (.Name "range" p) [a] [] pos) (wC ta):=by
 intro pins s σ H R I h
 refine Call_ (eJ I hg hm boot_range (Et (thn (ha pos pins s σ H _ I h) λ us s1 ⟨vs,H1,I1,r1,q1⟩=>?_) hs rfl))
 obtain ⟨j,e,q1,q2,q⟩:=q1
 subst e
 cases r1 with
 | cons r rr=>
  cases rr
  obtain ⟨t,rfl⟩:=r
  exact call_range_1 (t8 I1 (by lia) (by lia) q1 q2 (by simpa using q))
def A0 (wi:TI) (g:TG) (tb:TS):TS:=λ D σ H=>wi σ H λ J H1=>∃ W:Nat->Nat->St->Hp->Prop,(∃ m,W 0 m σ H1)/\∀ i m σ H,W i m σ H->
 (J.stop i H/\D.nx σ H)\/(J.go i H/\∃ N:St->Hp->Prop,(∀ σ' H',N σ' H'->∃ m',m'<m/\W (i+1) m' σ' H')/\∀ x H',J.yld i H x H'->g x σ H' λ σ2 H2=>tb { D with nx:=N,ct:=N,bk:=D.nx } σ2 H2)
noncomputable def nM (fp:List Addr) (h:Heap):List (Addr×Obj):=fp.filterMap λ b=>(h.get? b).map λ o=>(b,o)
theorem bm {fp:List Addr} {h:Heap} {b:Addr} {o:Obj} (hb:b∈fp) (e:h.get? b=some o):(b,o)∈nM fp h:=JE.mpr ⟨b,hb,by rw [e]; rfl⟩
theorem p9 {fp:List Addr} {h:Heap} {p:Addr×Obj} (hp:p∈nM fp h):p.1∈fp/\h.get? p.1=some p.2:=by
 obtain ⟨b,hb,e⟩:=JE.mp hp
 cases q:h.get? b with
 | none=>rw [q] at e; cases e
 | some o=>
  rw [q] at e
  have e':(b,o)=p:=D7 e
  subst e'
  exact ⟨hb,q⟩
theorem Inv.pinned {pins:List (Addr×Obj)} {σ:St} {H:Hp} {s:Shared} {fp:List Addr} (I:Inv X pins σ H s) (hf:∀ b∈fp,pV X pins H b) (ho:∀ b∈fp,∃ o,s.heap.get? b=some o/\∀ v,o.data≠.cell v):Inv X (pins++nM fp s.heap) σ H s:=
 I.pins_of λ p hp=>(DG.mp hp).elim (λ z=>I.pin p (Dj _ z)) λ z=>by
  obtain ⟨hb,e⟩:=p9 z
  obtain ⟨f0,f1,f2,_⟩:=hf p.1 hb
  obtain ⟨o,e',d⟩:=ho p.1 hb
  rw [e] at e'; cases e'
  exact ⟨e,f0,f1,f2,d⟩
theorem Inv.unpinned {pins pl:List (Addr×Obj)} {σ:St} {H:Hp} {s:Shared} (I:Inv X (pins++pl) σ H s):Inv X pins σ H s:=I.pins_of λ p hp=>I.pin p (Dj _ (D3 _ hp))
theorem yU {iter:Expr} {body:List Stmt} {wi:TI} {g:TG} {tb:TS} {pos:Pos} (hp:PassesOwn (model X.prog X.w) X.A X.env X.xe) (hc:X.calm=true) (hi:PI X tg iter wi) (hg:PG X tg g) (hb:PSs X body tb)
  (hs:∀ x,foldedSetIterable iter X.env x=pure x:=by intro _; rfl):PS X (.For tg iter body [] pos) (A0 wi g tb):=by
 intro pins s σ H D I h
 refine wpAny_For (thn (hi pins s σ H _ I h) λ v s1 h1=>thn h1 λ itv s2 h2=>?_) hs
 obtain ⟨it,fp,tn,J,H2,e,I2,T,st2,f2,W,⟨m0,w0⟩,turn⟩:=h2
 subst e
 -- what stays true of the iterator's objects through the loop
 have stat:∀ {H':Hp},(∀ b∈fp,H' b=none)->∀ b∈fp,pV X pins H' b:=λ hn b hb=>⟨hn b hb,(f2 b hb).2⟩
 refine codeAny_forLoop_any (λ n s'=>∃ i σ' H',Inv X pins σ' H' s'/\tn i s'.heap/\(∀ b∈fp,H' b=none)/\W i n σ' H') ?_ m0 ⟨0,σ,H2,I2,st2,λ b hb=>(f2 b hb).1,w0⟩
 rintro n s3 ⟨i,σ3,H3,I3,st3,fr3,w3⟩
 rcases turn i n σ3 H3 w3 with ⟨stop,qn⟩ | ⟨go,N,hN,step⟩
 ·refine wpAny_passesOwn hp (thn (T.done X rfl rfl rfl hc i pins s3 σ3 H3 X.xe I3 (stat fr3) st3 stop) λ r s4 ⟨hr,I4⟩=>?_)
  subst hr
  exact wpAny_execs_nil ⟨σ3,H3,I4,qn⟩
 ·refine wpAny_passesOwn hp (thn (T.item X rfl rfl rfl hc i pins s3 σ3 H3 X.xe I3 (stat fr3) st3 go) λ r s4 ⟨u,hr,h4⟩=>?_)
  subst hr
  refine wpAny_passesOwn hp (thn h4 λ _ s5 ⟨x,H5,I5,r5,y5,st5,fr5⟩=>?_)
  have I5':=I5.pinned (stat fr5) (T.obj _ _ st5)
  refine wpAny_passesOwn hp (thn (hg _ s5 σ3 H5 x u _ I5' r5 (step x H5 y5)) λ _ s6 ⟨σ6,H6,I6,q6⟩=>?_)
  refine wpAny_passesOwn hp (thn (hb _ s6 σ6 H6 _ I6 q6) λ f s7 q7=>?_)
  have again:∀ {σ7:St} {H7:Hp},Inv X (pins++nM fp s5.heap) σ7 H7 s7->N σ7 H7->∃ m,m<n/\∃ i σ' H',Inv X pins σ' H' s7/\tn i s7.heap/\(∀ b∈fp,H' b=none)/\W i m σ' H':=λ {σ7 H7} I7 n7=>by
   obtain ⟨m',hm,w7⟩:=hN σ7 H7 n7
   refine ⟨m',hm,i+1,σ7,H7,I7.unpinned,T.keep _ _ _ st5 λ b hb o e=>(I7.pin (b,o) (Dj _ (Dj _ (bm hb e)))).1,λ b hb=>?_,w7⟩
   obtain ⟨o,e,d⟩:=T.obj _ _ st5 b hb
   exact (I7.pin (b,o) (Dj _ (Dj _ (bm hb e)))).2.1
  cases f with
  | next=>obtain ⟨σ7,H7,I7,n7⟩:=q7; exact again I7 n7
  | cont=>obtain ⟨σ7,H7,I7,n7⟩:=q7; exact again I7 n7
  | brk=>obtain ⟨σ7,H7,I7,q7⟩:=q7; exact ⟨σ7,H7,I7.unpinned,q7⟩
  | ret v=>obtain ⟨x7,σ7,H7,I7,r7,q7⟩:=q7; exact ⟨x7,σ7,H7,I7.unpinned,r7,q7⟩
end
theorem gh {K:C7} {a:Addr} {xs:List V} {g:TG} {tb:TS} {D:Ends} {σ:St} {H:Hp} (Pv:Nat->St->Hp->Prop) (h0:Pv 0 σ H) (hl:∀ i σ H,i<=xs.length->Pv i σ H->SqL K H a xs)
  (hs:∀ i x σ H,xs[i]? = some x->Pv i σ H->g x σ H λ σ2 H2=>tb { D with nx:=Pv (i+1),ct:=Pv (i+1),bk:=D.nx } σ2 H2) (hd:∀ σ H,Pv xs.length σ H->D.nx σ H) :
  ∃ W:Nat->Nat->St->Hp->Prop,(∃ m,W 0 m σ H)/\∀ i m σ H,W i m σ H->
   ((Itl K a).stop i H/\D.nx σ H)\/((Itl K a).go i H/\∃ N:St->Hp->Prop,(∀ σ' H',N σ' H'->∃ m',m'<m/\W (i+1) m' σ' H')/\∀ x H',(Itl K a).yld i H x H'->g x σ H' λ σ2 H2=>tb { D with nx:=N,ct:=N,bk:=D.nx } σ2 H2):=by
 refine ⟨λ i m σ H=>m=xs.length - i/\i<=xs.length/\Pv i σ H,⟨xs.length,by simp,Du _,h0⟩,?_⟩
 rintro i m σ H ⟨rfl,hi,p⟩
 have q:=hl i σ H hi p
 by_cases hlt:i<xs.length
 ·refine .inr ⟨⟨xs,xs[i],q,by simp [hlt]⟩,Pv (i+1),λ σ' H' p'=>⟨xs.length - (i+1),by lia,rfl,hlt,p'⟩,λ x H' y=>?_⟩
  obtain ⟨e,y⟩:=y
  subst e
  exact hs i x σ _ (y xs q) p
 ·have e:i=xs.length:=by lia
  subst e
  exact .inl ⟨⟨xs,q,C8 _⟩,hd σ H p⟩
theorem wD {K:C7} {a:Addr} {xs:List V} {g:TG} {tb:TS} {D:Ends} {σ:St} {H:Hp} (Pv:Nat->St->Hp->Prop) (h0:Pv 0 σ H) (hl:∀ i σ H,i<=xs.length->Pv i σ H->SqT K H a xs)
  (hs:∀ i x σ H,xs[i]? = some x->Pv i σ H->g x σ H λ σ2 H2=>tb { D with nx:=Pv (i+1),ct:=Pv (i+1),bk:=D.nx } σ2 H2) (hd:∀ σ H,Pv xs.length σ H->D.nx σ H) :
  ∃ W:Nat->Nat->St->Hp->Prop,(∃ m,W 0 m σ H)/\∀ i m σ H,W i m σ H->
   ((Itt K a).stop i H/\D.nx σ H)\/((Itt K a).go i H/\∃ N:St->Hp->Prop,(∀ σ' H',N σ' H'->∃ m',m'<m/\W (i+1) m' σ' H')/\∀ x H',(Itt K a).yld i H x H'->g x σ H' λ σ2 H2=>tb { D with nx:=N,ct:=N,bk:=D.nx } σ2 H2):=by
 refine ⟨λ i m σ H=>m=xs.length - i/\i<=xs.length/\Pv i σ H,⟨xs.length,by simp,Du _,h0⟩,?_⟩
 rintro i m σ H ⟨rfl,hi,p⟩
 have q:=hl i σ H hi p
 by_cases hlt:i<xs.length
 ·refine .inr ⟨⟨xs,xs[i],q,by simp [hlt]⟩,Pv (i+1),λ σ' H' p'=>⟨xs.length - (i+1),by lia,rfl,hlt,p'⟩,λ x H' y=>?_⟩
  obtain ⟨e,y⟩:=y
  subst e
  exact hs i x σ _ (y xs q) p
 ·have e:i=xs.length:=by lia
  subst e
  exact .inl ⟨⟨xs,q,C8 _⟩,hd σ H p⟩
theorem eQ {lo:Int} {n:Nat} {g:TG} {tb:TS} {D:Ends} {σ:St} {H:Hp} (Pv:Nat->St->Hp->Prop) (h0:Pv 0 σ H)
  (hs:∀ i σ H,i<n->Pv i σ H->g (.int (lo+i)) σ H λ σ2 H2=>tb { D with nx:=Pv (i+1),ct:=Pv (i+1),bk:=D.nx } σ2 H2) (hd:∀ σ H,Pv n σ H->D.nx σ H) :
  ∃ W:Nat->Nat->St->Hp->Prop,(∃ m,W 0 m σ H)/\∀ i m σ H,W i m σ H->
   ((Itr lo n).stop i H/\D.nx σ H)\/((Itr lo n).go i H/\∃ N:St->Hp->Prop,(∀ σ' H',N σ' H'->∃ m',m'<m/\W (i+1) m' σ' H')/\∀ x H',(Itr lo n).yld i H x H'->g x σ H' λ σ2 H2=>tb { D with nx:=N,ct:=N,bk:=D.nx } σ2 H2):=by
 refine ⟨λ i m σ H=>m=n - i/\i<=n/\Pv i σ H,⟨n,by simp,Du _,h0⟩,?_⟩
 rintro i m σ H ⟨rfl,hi,p⟩
 by_cases hlt:i<n
 ·refine .inr ⟨hlt,Pv (i+1),λ σ' H' p'=>⟨n - (i+1),by lia,rfl,hlt,p'⟩,λ x H' y=>?_⟩
  obtain ⟨e,y⟩:=y
  subst e y
  exact hs i σ _ hlt p
 ·have e:i=n:=by lia
  subst e
  exact .inl ⟨C8 _,hd σ H p⟩
noncomputable abbrev R2:=V->V->Hp->VK->Prop
def OpR (X:Cx) (f:Value->Value->Sem Value) (r:R2):Prop:=
 ∀ (pins:List (Addr×Obj)) (s:Shared) (σ:St) (H:Hp) (x y:V) (v u:Value) (Q:VK),Inv X pins σ H s->RelV x v->RelV y u->r x y H Q->
  wpAny (model X.prog X.w) X.A (f v u) (EP X pins σ Q) X.xe s
def UnR (X:Cx) (f:Value->Sem Value) (r:V->Hp->VK->Prop):Prop:=
 ∀ (pins:List (Addr×Obj)) (s:Shared) (σ:St) (H:Hp) (x:V) (v:Value) (Q:VK),Inv X pins σ H s->RelV x v->r x H Q->
  wpAny (model X.prog X.w) X.A (f v) (EP X pins σ Q) X.xe s
def dh (X:Cx) (f:Value) (r:List V->Hp->VK->Prop):Prop:=
 ∀ (pins:List (Addr×Obj)) (s:Shared) (σ:St) (H:Hp) (xs:List V) (us:List Value) (Q:VK),Inv X pins σ H s->Vals xs us->r xs H Q->
  wpAny (model X.prog X.w) X.A (call f us) (EP X pins σ Q) X.xe s
def Cw (X:Cx) (r:V->Hp->(Bool->Hp->Prop)->Prop):Prop:=
 ∀ (pins:List (Addr×Obj)) (s:Shared) (σ:St) (H:Hp) (x:V) (v:Value) (Q:Bool->Hp->Prop),Inv X pins σ H s->RelV x v->r x H Q->
  wpAny (model X.prog X.w) X.A (truthy v) (TP X pins σ Q) X.xe s
def tOp (r:R2) (ta tb:TE):TE:=λ σ H Q=>ta σ H λ x H1=>tb σ H1 λ y H2=>r x y H2 Q
def tUn (r:V->Hp->VK->Prop) (ta:TE):TE:=λ σ H Q=>ta σ H λ x H1=>r x H1 Q
def rI (C:Int->Int->Prop) (g:Int->Int->V):R2:=λ x y H Q=>∃ i j,x=.int i/\y=.int j/\C i j/\Q (g i j) H
def rI0 (g:Int->Int->V):R2:=λ x y H Q=>∃ i j,x=.int i/\y=.int j/\Q (g i j) H
def rU (g:Int->V):V->Hp->VK->Prop:=λ x H Q=>∃ i,x=.int i/\Q (g i) H
section
variable {X:Cx} {a b c:Expr} {ta tb tc:TE} {pos:Pos}
theorem A1 (ha:PE X a ta) (hb:PE X b tb) {pins:List (Addr×Obj)} {s:Shared} {σ:St} {H:Hp} {R:V->V->Hp->Prop} (I:Inv X pins σ H s)
  (h:ta σ H λ x H1=>tb σ H1 λ y H2=>R x y H2) {Q:Value->Shared->Prop} {f:Value->Value->Sem Value}
  (hf:∀ v u s2 x y H2,Inv X pins σ H2 s2->RelV x v->RelV y u->R x y H2->wpAny (model X.prog X.w) X.A (f v u) Q X.xe s2) :
  wpAny (model X.prog X.w) X.A (eval a X.env) (λ v s₁=>wpAny (model X.prog X.w) X.A (eval b X.env) (λ u s₂=>wpAny (model X.prog X.w) X.A (f v u) Q X.xe s₂) X.xe s₁) X.xe s:=by
 refine thn (ha pins s σ H _ I h) λ v s1 ⟨x,H1,I1,r1,q1⟩=>?_
 refine thn (hb pins s1 σ H1 _ I1 q1) λ u s2 ⟨y,H2,I2,r2,q2⟩=>?_
 exact hf v u s2 x y H2 I2 r1 r2 q2
theorem A2 {op:Operator} {r:R2} (ho:OpR X (binaryOp op) r) (ha:PE X a ta) (hb:PE X b tb):PE X (.BinOp a op b pos) (tOp r ta tb):=by
 intro pins s σ H Q I h
 exact wpAny_BinOp (A1 ha hb I h λ v u s2 x y H2 I2 rx ry q=>ho pins s2 σ H2 x y v u Q I2 rx ry q)
theorem yV {op:UnaryOp} {r:V->Hp->VK->Prop} (ho:UnR X (unaryOp op) r) (ha:PE X a ta):PE X (.UnaryOp op a pos) (tUn r ta):=by
 intro pins s σ H Q I h
 exact UnaryOp_ (thn (ha pins s σ H _ I h) λ v s1 ⟨x,H1,I1,r1,q1⟩=>ho pins s1 σ H1 x v Q I1 r1 q1)
theorem opI {f:Value->Value->Sem Value} {C:Int->Int->Prop} {g:Int->Int->Int}
  (rule:∀ (i j:Int) (t u:Tok) (s:Shared) (Q:Value->Shared->Prop) (E:Value->Shared->Prop),C i j->Q (.int (g i j) s.toks) { s with toks:=s.toks+1 }->wpAny (model X.prog X.w) X.A (f (.int i t) (.int j u)) Q E s) :
  OpR X f (rI C λ i j=>.int (g i j)):=by
 intro pins s σ H x y v u Q I rx ry h
 obtain ⟨i,j,rfl,rfl,hc,q⟩:=h
 obtain ⟨t,rfl⟩:=rx
 obtain ⟨t',rfl⟩:=ry
 exact rule i j t t' s _ _ hc ⟨.int (g i j),H,I.tok _,⟨_,rfl⟩,q⟩
theorem A3 {f:Value->Value->Sem Value} {g:Int->Int->Int}
  (rule:∀ (i j:Int) (t u:Tok) (s:Shared) (Q:Value->Shared->Prop) (E:Value->Shared->Prop),Q (.int (g i j) s.toks) { s with toks:=s.toks+1 }->wpAny (model X.prog X.w) X.A (f (.int i t) (.int j u)) Q E s) :
  OpR X f (rI0 λ i j=>.int (g i j)):=by
 intro pins s σ H x y v u Q I rx ry h
 obtain ⟨i,j,rfl,rfl,q⟩:=h
 obtain ⟨t,rfl⟩:=rx
 obtain ⟨t',rfl⟩:=ry
 exact rule i j t t' s _ _ ⟨.int (g i j),H,I.tok _,⟨_,rfl⟩,q⟩
theorem A4 {f:Value->Value->Sem Value} {g:Int->Int->Bool}
  (rule:∀ (i j:Int) (t u:Tok) (s:Shared) (Q:Value->Shared->Prop) (E:Value->Shared->Prop),Q (.bool (g i j)) s->wpAny (model X.prog X.w) X.A (f (.int i t) (.int j u)) Q E s) :
  OpR X f (rI0 λ i j=>.bl (g i j)):=by
 intro pins s σ H x y v u Q I rx ry h
 obtain ⟨i,j,rfl,rfl,q⟩:=h
 obtain ⟨t,rfl⟩:=rx
 obtain ⟨t',rfl⟩:=ry
 exact rule i j t t' s _ _ ⟨.bl (g i j),H,I,rfl,q⟩
def Cy (i j:Int):Prop:=0<j/\j<1073741824
def AB (i j:Int):Prop:=0<=j/\j<=1000000/\i.natAbs<2 ^ 64
def CMul (i j:Int):Prop:=(-(2 ^ 64)<i/\i<2 ^ 64)\/(-(2 ^ 64)<j/\j<2 ^ 64)
theorem CMul.ok {i j:Int} (h:CMul i j):IntMulOk i j:=by
 rcases h with ⟨h1,h2⟩ | ⟨h1,h2⟩
 ·exact .of_left (intBits_le_64 h1 h2)
 ·exact .of_right (intBits_le_64 h1 h2)
theorem yW:OpR X (binaryOp .Add) (rI0 λ i j=>.int (i+j)):=A3 λ _ _ _ _ _ _ _ q=>add_int q
theorem yX:OpR X (binaryOp .Sub) (rI0 λ i j=>.int (i - j)):=A3 λ _ _ _ _ _ _ _ q=>sub_int q
theorem yY:OpR X (binaryOp .Mult) (rI CMul λ i j=>.int (i*j)):=opI λ _ _ _ _ _ _ _ hc q=>mul_int q hc.ok
theorem yZ:OpR X (binaryOp .Mod) (rI (λ _ j=>0<j) λ i j=>.int (i % j)):=opI λ i j _ _ _ _ _ hc q=>by
 have h1:(0:Int)<j:=hc
 exact mod_int' (by lia) (by rw [Int.fmod_eq_emod_of_nonneg i (by lia)]; exact q)
theorem y7:OpR X (binaryOp .Pow) (rI AB λ i j=>.int (i ^ j.toNat)):=opI λ _ _ _ _ _ _ _ hc q=>pow_int_small hc.1 hc.2.1 hc.2.2 q
theorem wE:OpR X (inplaceOp .Add) (rI0 λ i j=>.int (i+j)):=A3 λ _ _ _ _ _ _ _ q=>iadd_int q
theorem unI {f:Value->Sem Value} {g:Int->Int}
  (rule:∀ (i:Int) (t:Tok) (s:Shared) (Q:Value->Shared->Prop) (E:Value->Shared->Prop),Q (.int (g i) s.toks) { s with toks:=s.toks+1 }->wpAny (model X.prog X.w) X.A (f (.int i t)) Q E s) :
  UnR X f (rU λ i=>.int (g i)):=by
 intro pins s σ H x v Q I rx h
 obtain ⟨i,rfl,q⟩:=h
 obtain ⟨t,rfl⟩:=rx
 exact rule i t s _ _ ⟨.int (g i),H,I.tok _,⟨_,rfl⟩,q⟩
theorem vn:UnR X (unaryOp .USub) (rU λ i=>.int (-i)):=unI λ _ _ _ _ _ q=>neg_int q
end
noncomputable def BY:V->V->Bool
 | .non,.non=>true | .non,.int _=>true | .int _,.non=>true | .non,.bl _=>true | .bl _,.non=>true | .non,.str _=>true | .str _,.non=>true
 | .int _,.int _=>true | .bl _,.bl _=>true | .str _,.str _=>true | .byt _,.byt _=>true
 | .int _,.str _=>true | .str _,.int _=>true | .bl _,.str _=>true | .str _,.bl _=>true
 | _,_=>false
def rEq:R2:=λ x y H Q=>BY x y=true/\Q (.bl (decide (x=y))) H
def rNe:R2:=λ x y H Q=>BY x y=true/\Q (.bl (!decide (x=y))) H
theorem qa {i j:Int}:decide (V.int i=V.int j)=(i == j):=by
 rw [G4]
 simp
theorem vo {i j:Bool}:decide (V.bl i=V.bl j)=(i == j):=by
 rw [G4]
 simp
theorem qb {i j:Str}:decide (V.str i=V.str j)=(i == j):=by
 rw [G4]
 simp
theorem qc {i j:Array UInt8}:decide (V.byt i=V.byt j)=(i.toList == j.toList):=by
 rw [G4]
 cases i
 cases j
 simp
section
variable {X:Cx} {a b c:Expr} {ta tb tc:TE} {pos:Pos}
theorem aT {pins:List (Addr×Obj)} {σ:St} {H:Hp} {s:Shared} {Q:VK} {k k':Bool} (I:Inv X pins σ H s) (q:Q (.bl k) H) (e:k=k'):EP X pins σ Q (.bool k') s:=by
 subst e
 exact ⟨.bl k,H,I,rfl,q⟩
theorem A5:OpR X (compareOp .Eq) rEq:=by
 intro pins s σ H x y v u Q I rx ry h
 obtain ⟨hs,q⟩:=h
 cases x with
 | non=>
  cases rx
  cases y with
  | non=>cases ry; exact Ld (aT I q (by simp))
  | bl j=>cases ry; exact Le (aT I q (by simp))
  | int j=>obtain ⟨t',rfl⟩:=ry; exact Lq (aT I q (by simp))
  | str j=>obtain ⟨t',rfl⟩:=ry; exact Lr (aT I q (by simp))
  | _=>exact absurd (show false=true from hs) Dt
 | bl i=>
  cases rx
  cases y with
  | non=>cases ry; exact Lf (aT I q (by simp))
  | bl j=>cases ry; exact eq_bool (aT I q vo)
  | str j=>obtain ⟨t',rfl⟩:=ry; exact Lg (aT I q (by simp))
  | _=>exact absurd (show false=true from hs) Dt
 | int i=>
  obtain ⟨t,rfl⟩:=rx
  cases y with
  | non=>cases ry; exact Ls (aT I q (by simp))
  | int j=>obtain ⟨t',rfl⟩:=ry; exact eq_int (aT I q qa)
  | str j=>obtain ⟨t',rfl⟩:=ry; exact Lu (aT I q (by simp))
  | _=>exact absurd (show false=true from hs) Dt
 | str i=>
  obtain ⟨t,rfl⟩:=rx
  cases y with
  | non=>cases ry; exact Lv (aT I q (by simp))
  | bl j=>cases ry; exact Lh (aT I q (by simp))
  | int j=>obtain ⟨t',rfl⟩:=ry; exact Lx (aT I q (by simp))
  | str j=>obtain ⟨t',rfl⟩:=ry; exact eq_str (aT I q qb)
  | _=>exact absurd (show false=true from hs) Dt
 | byt i=>
  obtain ⟨t,rfl⟩:=rx
  cases y with
  | byt j=>obtain ⟨t',rfl⟩:=ry; exact PySem.W.eq_bytes (aT I q qc)
  | _=>exact absurd (show false=true from hs) Dt
 | _=>cases y<;>exact absurd (show false=true from hs) Dt
theorem A6:OpR X (compareOp .NotEq) rNe:=by
 intro pins s σ H x y v u Q I rx ry h
 obtain ⟨hs,q⟩:=h
 cases x with
 | non=>
  cases rx
  cases y with
  | non=>cases ry; exact Li (aT I q (by simp))
  | bl j=>cases ry; exact Lj (aT I q (by simp))
  | int j=>obtain ⟨t',rfl⟩:=ry; exact Ly (aT I q (by simp))
  | str j=>obtain ⟨t',rfl⟩:=ry; exact Lz (aT I q (by simp))
  | _=>exact absurd (show false=true from hs) Dt
 | bl i=>
  cases rx
  cases y with
  | non=>cases ry; exact Lk (aT I q (by simp))
  | bl j=>cases ry; exact ne_bool (aT I q (congrArg not vo))
  | str j=>obtain ⟨t',rfl⟩:=ry; exact Ll (aT I q (by simp))
  | _=>exact absurd (show false=true from hs) Dt
 | int i=>
  obtain ⟨t,rfl⟩:=rx
  cases y with
  | non=>cases ry; exact LA (aT I q (by simp))
  | int j=>obtain ⟨t',rfl⟩:=ry; exact ne_int (aT I q (congrArg not qa))
  | str j=>obtain ⟨t',rfl⟩:=ry; exact LC (aT I q (by simp))
  | _=>exact absurd (show false=true from hs) Dt
 | str i=>
  obtain ⟨t,rfl⟩:=rx
  cases y with
  | non=>cases ry; exact LD (aT I q (by simp))
  | bl j=>cases ry; exact Lm (aT I q (by simp))
  | int j=>obtain ⟨t',rfl⟩:=ry; exact LF (aT I q (by simp))
  | str j=>obtain ⟨t',rfl⟩:=ry; exact ne_str (aT I q (congrArg not qb))
  | _=>exact absurd (show false=true from hs) Dt
 | byt i=>
  obtain ⟨t,rfl⟩:=rx
  cases y with
  | byt j=>obtain ⟨t',rfl⟩:=ry; exact PySem.W.ne_bytes (aT I q (congrArg not qc))
  | _=>exact absurd (show false=true from hs) Dt
 | _=>cases y<;>exact absurd (show false=true from hs) Dt
theorem A7:OpR X (compareOp .Lt) (rI0 λ i j=>.bl (decide (i<j))):=A4 λ _ _ _ _ _ _ _ q=>lt_int q
theorem A8:OpR X (compareOp .Gt) (rI0 λ i j=>.bl (decide (j<i))):=A4 λ _ _ _ _ _ _ _ q=>gt_int q
theorem A9:OpR X (compareOp .GtE) (rI0 λ i j=>.bl (decide (j<=i))):=A4 λ _ _ _ _ _ _ _ q=>ge_int q
theorem y8:OpR X (compareOp .Is) (λ x y H Q=>y=.non/\Q (.bl (decide (x=.non))) H):=by
 intro pins s σ H x y v u Q I rx ry h
 obtain ⟨rfl,q⟩:=h
 cases ry
 refine is_none_gen (aT I q ?_)
 cases x<;>first
  | (cases rx; rfl)
  | (obtain ⟨t,rfl⟩:=rx; rfl)
theorem wF:OpR X (compareOp .IsNot) (λ x y H Q=>y=.non/\Q (.bl (!decide (x=.non))) H):=by
 intro pins s σ H x y v u Q I rx ry h
 obtain ⟨rfl,q⟩:=h
 cases ry
 refine isnot_none_gen (aT I q ?_)
 cases x<;>first
  | (cases rx; rfl)
  | (obtain ⟨t,rfl⟩:=rx; rfl)
theorem aG (b:Expr) {op:CmpOp} (h:op≠.In:=by decide) (h2:op≠.NotIn:=by decide):behindInMarks op b=false:=by
 have e1:(op == CmpOp.In)=false:=by cases op<;>first | rfl | exact absurd rfl h
 have e2:(op == CmpOp.NotIn)=false:=by cases op<;>first | rfl | exact absurd rfl h2
 cases b<;>simp [behindInMarks,e1,e2]
theorem wG {op:CmpOp} {r:R2} (ho:OpR X (compareOp op) r) (ha:PE X a ta) (hb:PE X b tb) (hm:behindInMarks op b=false):PE X (.Compare a [op] [b] pos) (tOp r ta tb):=by
 intro pins s σ H Q I h
 exact wpAny_Compare1 (A1 ha hb I h λ v u s2 x y H2 I2 rx ry q=>ho pins s2 σ H2 x y v u Q I2 rx ry q) hm
def wH (t:TE):TT:=λ σ H Q=>t σ H λ x H'=>∃ k,x=.bl k/\Q k H'
theorem wI {op:CmpOp} {r:R2} (ho:OpR X (compareOp op) r) (ha:PE X a ta) (hb:PE X b tb) (hm:behindInMarks op b=false):PT X (.Compare a [op] [b] pos) (wH (tOp r ta tb)):=by
 intro pins s σ H Q I h
 refine wpAny_isTrue_Compare1 (thn (ha pins s σ H _ I h) λ v s1 ⟨x,H1,I1,r1,q1⟩=>thn (hb pins s1 σ H1 _ I1 q1) λ u s2 ⟨y,H2,I2,r2,q2⟩=>
  thn (ho pins s2 σ H2 x y v u _ I2 r1 r2 q2) λ c s3 ⟨z,H3,I3,r3,k,e,q3⟩=>?_) hm
 subst e
 cases r3
 exact wpAny_truthy_bool ⟨H3,I3,q3⟩
def yq (K:C7) (x:V) (H:Hp) (k:Bool):Prop:=
 match x with
 | .non=>k=false
 | .bl b=>k=b
 | .int i=>k=(i != 0)
 | .str y=>y.length<=sizeLine/\k=((y.length:Int) != 0)
 | .byt y=>y.size<=sizeLine/\k=((y.size:Int) != 0)
 | .ref p=>(∃ xs,SqL K H p xs/\k=!xs.isEmpty)\/(∃ xs,SqT K H p xs/\k=!xs.isEmpty)\/∃ kvs,H p=some (.dK kvs)/\k=!kvs.isEmpty
 | _=>False
theorem oS {κ:Type} {kvs:List (κ×V)} {vs:List (κ×Value)} (r:KV kvs vs):(!vs.isEmpty)=!kvs.isEmpty:=by
 cases r<;>rfl
theorem j9 {xs:List V} {its:List Value} (r:Vals xs its):(!its.toArray.isEmpty)=!xs.isEmpty:=by
 cases r<;>simp
theorem jb:(sizeLine:Nat)<2 ^ 63:=by rw [sizeLine_eq]; decide
theorem y9:Cw X (λ x H Q=>∃ k,yq X.K x H k/\Q k H):=by
 intro pins s σ H x v Q I rx h
 obtain ⟨k,e,q⟩:=h
 have hl:=jb
 have hs:sizeLine=16777216:=sizeLine_eq
 cases x with
 | non=>
  cases rx
  have e':k=false:=e
  subst e'
  exact truthy_none ⟨H,I,q⟩
 | bl b=>
  cases rx
  have e':k=b:=e
  subst e'
  exact wpAny_truthy_bool ⟨H,I,q⟩
 | int i=>
  obtain ⟨t,rfl⟩:=rx
  have e':k=(i != 0):=e
  subst e'
  exact PySem.P.truthy_int ⟨H,I,q⟩
 | str y=>
  obtain ⟨t,rfl⟩:=rx
  obtain ⟨hy,e'⟩:y.length<=sizeLine/\k=((y.length:Int) != 0):=e
  subst e'
  exact PySem.P.truthy_str (by lia) ⟨H,I.tok _,q⟩
 | byt y=>
  obtain ⟨t,rfl⟩:=rx
  obtain ⟨hy,e'⟩:y.size<=sizeLine/\k=((y.size:Int) != 0):=e
  subst e'
  exact PySem.W.truthy_bytes (by lia) ⟨H,I.tok _,q⟩
 | ref p=>
  cases rx
  have e':(∃ xs,SqL X.K H p xs/\k=!xs.isEmpty)\/(∃ xs,SqT X.K H p xs/\k=!xs.isEmpty)\/∃ kvs,H p=some (.dK kvs)/\k=!kvs.isEmpty:=e
  rcases e' with ⟨xs,hx,e'⟩ | ⟨xs,hx,e'⟩ | ⟨kvs,hx,e'⟩
  ·subst e'
   obtain ⟨its,r,pl,hz⟩:=I.list hx
   have hlen:=r.length
   exact wpAny_truthy_list pl.isList (by simp only [Dm]; lia) ⟨H,I.tok _,by rw [j9 r]; exact q⟩
  ·subst e'
   obtain ⟨its,r,pl,hz⟩:=I.tuple hx
   have hlen:=r.length
   exact truthy_tuple pl (by simp only [Dm]; lia) ⟨H,I.tok _,by rw [j9 r]; exact q⟩
  ·subst e'
   obtain ⟨hz,hS,vs,r,m⟩:kvs.length<=sizeLine/\(p == sysModules)=false/\∃ vs,KV kvs vs/\s.heap.DictOf (mP X.prog X.w) p vs:=I.hok p _ hx
   have hlen:kvs.length=vs.length:=KY r
   exact wpAny_truthy_dict hS m (by lia) ⟨H,I.tok _,by rw [oS r]; exact q⟩
 | _=>exact (show False from e).elim
theorem ua (ha:PE X a ta) (he:∀ whole,isTrue a X.env whole=(do let v <-whole; standAt a.pos; holding [v] (truthy v))) :
  PT X a (λ σ H Q=>ta σ H λ x H'=>∃ k,yq X.K x H' k/\Q k H'):=by
 intro pins s σ H Q I h
 exact isTrue_plain (thn (ha pins s σ H _ I h) λ v s1 ⟨x,H1,I1,r1,q1⟩=>y9 pins s1 σ H1 x v Q I1 r1 q1) (he _)
theorem kE {x:V} {us:List Value} (r:Vals [x] us):∃ u,us=[u]/\RelV x u:=by
 cases r with
 | cons r1 r2=>cases r2; exact ⟨_,rfl,r1⟩
theorem za {x y:V} {us:List Value} (r:Vals [x,y] us):∃ u w',us=[u,w']/\RelV x u/\RelV y w':=by
 cases r with
 | cons r1 r2=>
  cases r2 with
  | cons r3 r4=>cases r4; exact ⟨_,_,rfl,r1,r3⟩
theorem ub:dh X (.builtin "abs") (λ xs H Q=>∃ i,xs=[.int i]/\Q (.int (if i<0 then -i else i)) H):=by
 intro pins s σ H xs us Q I r h
 obtain ⟨i,rfl,q⟩:=h
 obtain ⟨u,rfl,t,rfl⟩:=kE r
 exact call_abs_int λ u tk=>⟨.int (if i<0 then -i else i),H,I.tok _,⟨_,rfl⟩,q⟩
theorem qd (hc:X.calm=true):dh X (.builtin "min") (λ xs H Q=>∃ i j,xs=[.int i,.int j]/\Q (.int (if j<i then j else i)) H):=by
 intro pins s σ H xs us Q I r h
 obtain ⟨i,j,rfl,q⟩:=h
 obtain ⟨u,w',rfl,⟨t,rfl⟩,⟨t',rfl⟩⟩:=za r
 refine min_two_ints (I.ok.hd hc) λ h' tk k=>⟨_,H,I.kept k,?_,q⟩
 by_cases hj:j<i
 ·rw [if_pos hj,if_pos hj]; exact ⟨_,rfl⟩
 ·rw [if_neg hj,if_neg hj]; exact ⟨_,rfl⟩
theorem qe:dh X (.type "int") (λ xs H Q=>(∃ i,xs=[.int i]/\Q (.int i) H)\/∃ k,xs=[.bl k]/\Q (.int (if k then 1 else 0)) H):=by
 intro pins s σ H xs us Q I r h
 rcases h with ⟨i,rfl,q⟩ | ⟨k,rfl,q⟩
 ·obtain ⟨u,rfl,t,rfl⟩:=kE r
  exact call_int_int ⟨.int i,H,I,⟨_,rfl⟩,q⟩
 ·obtain ⟨u,rfl,r1⟩:=kE r
  cases r1
  exact call_int_bool ⟨.int (if k then 1 else 0),H,I.tok _,⟨_,rfl⟩,q⟩
end
structure ObjM (h:Heap) (x dx C:Addr) (mA:Str->Option Value):Prop where
 obj:h.get? x=some (Fh C dx)
 ns:h.Ns1 dx mA
 ne:dx≠x
theorem qg {h:Heap} {dx:Addr} {mA:Str->Option Value} (n:h.Ns1 dx mA):∃ od,h.get? dx=some od/\∀ name,Hf name od=some (mA name):=by
 obtain ⟨o,es,ep,ho,hd,hk,_,hm⟩:=n
 refine ⟨o,ho,λ name=>?_⟩
 have e:=hm name
 unfold nsFind findBy at e
 rw [<-Array.find?_toList] at e
 unfold Hf
 rw [hd]
 dsimp only
 split
 ·rename_i y q
  rw [q] at e
  exact congrArg some e
 ·rename_i q
  rw [q] at e
  have a:es.toList.any (·.refKey)=false:=by
   rw [List.any_eq_false]
   intro y hy
   obtain ⟨z,t,hkey⟩:=hk y (Jm.mp hy)
   simp [MF,hkey]
  have a':¬ es.toList.any (·.refKey)=true:=by rw [a]; exact Dt
  rw [if_neg a']
  exact congrArg some e
theorem ObjM.look {h:Heap} {x dx C:Addr} {mA:Str->Option Value} (I:ObjM h x dx C mA):∃ od,PySem.W.InstAt h x (Fh C dx) C (some od)/\∀ name,Hf name od=some (mA name):=
 let ⟨od,ho,hl⟩:=qg I.ns
 ⟨od,⟨I.obj,rfl,rfl,ho⟩,hl⟩
section
variable {prog:Program} {w:World} {A:Around} {E:Value->Shared->Prop} {s:Shared} {K:C7} {x dx C f:Addr} {mA:Str->Option Value} {name:Str} {v:Value}
theorem wJ {expr:Bool} {Q:Value->Shared->Prop} (X:K.In s.heap) (I:ObjM s.heap x dx C mA) (hg:Gx K C name=true) (hh:GM K C=true)
  (ha:DV K (.ref C) name=some none) (hv:mA name=some v) (hv':Kg v=true) (h:Q v { s with toks:=s.toks+1 }) :
  wpAny (model prog w) A (getAttr (.ref x) name expr) Q E s:=by
 obtain ⟨od,J,hl⟩:=I.look
 exact PySem.W.get_value X J (Hb hg).1 (PySem.W.findObj_own hh ha rfl (by rw [hl,hv])) hv' h
theorem uc {pl:Sem Bool} {Q:Value×List Value->Shared->Prop} (X:K.In s.heap) (I:ObjM s.heap x dx C mA) (hg:Gx K C name=true)
  (hf:DV K (.ref C) name=some (some (.ref f))) (ht:EY K (.ref f)=true) (hv:mA name=none) (h:Q (.ref f,[.ref x]) s) :
  wpAny (model prog w) A (getMethod (.ref x) name pl) Q E s:=by
 obtain ⟨od,J,hl⟩:=I.look
 exact PySem.W.method_fn X J (Hb hg).1 (Hb hg).2 hf (beq_iff_eq.mp ht) (by show (Hf name od).map (·.isSome)=some false; rw [hl,hv]; rfl) h
theorem wK {ns:List Str} {Q:Unit->Shared->Prop} (X:K.In s.heap) (I:ObjM s.heap x dx C mA)
  (hs:DV K (.ref C) "__setattr__" = some (some (.builtin "object.__setattr__"))) (hp:Ie K C=true) (ht:IP K C name=some none) (hh:GM K C=true)
  (hw:JD mA ns) (hsz:ns.length<=sizeLine)
  (h:∀ h',ObjM h' x dx C (λ y=>if y=name then some v else mA y)->Gr dx s.heap h'->Q () { s with heap:=h',toks:=s.toks+2 }) :
  wpAny (model prog w) A (setAttr (.ref x) name v) Q E s:=by
 obtain ⟨od,J,hl⟩:=I.look
 refine PySem.W.set_plain X J hs (PySem.W.osa_open (s:={ s with toks:=s.toks+1 }) (r:=none) X J hp ht λ b=>?_)
 obtain ⟨cd,hc,hd'⟩:=PySem.W.any_some hh
 have hx:s.heap.get? x=some ⟨.ref C,some dx,.plain,#[]⟩:=I.obj
 refine wpAny_bind (wpAny_pure (wpAny_bind (wpAny_bind (wpAny_loadPart hx (wpAny_bind (Mo (s:={ s with toks:=s.toks+1 }) (PySem.W.looks_clsIn X hc) ?_))))))
 rw [hd']
 refine wpAny_pure (a:=some dx) (wpAny_bind (wpAny_pure (wpAny_bind ?_)))
 refine wpAny_nsSet1 (s:={ s with toks:=s.toks+1 }) I.ns λ h' hn2 hs2=>?_
 obtain ⟨oD,esD,epD,hoD,hdD,hcD⟩:=hn2.count (Mx name v hw)
 refine wpAny_bind (wpAny_lookBehind hoD (by rw [hdD]; exact pastItsLine_dict (D9 hcD (by rw [DD]; lia))) ?_)
 exact wpAny_pure (h _ ⟨(hs2.2 _ (DX I.ne)).trans I.obj,hn2,I.ne⟩ hs2)
theorem ud {R:Result->Shared->Prop} {vs:List Value} {kw:List (Str×Value)} (X:K.In s.heap) (hm:IQ K C=true)
  (hi:DV K (.ref C) "__init__" = some (some (.ref f))) (hf:PySem.W.typeIn K (.ref f)=some (.type "function"))
  (h:codeAny (model prog w) (A.under (.builtin "type.__call__" ⟨.ref C::vs,kw⟩)) (.call (.ref f) ⟨.ref (s.heap.objs.size+1)::vs,kw⟩) (PySem.W.InitBack (s.heap.objs.size+1) R)
   { s with heap:=(s.heap.push EW).push (Fh C s.heap.objs.size) }) :
  codeAny (model prog w) A (.call (.ref C) ⟨vs,kw⟩) R s:=by
 obtain ⟨hh,g,d,t,os⟩:=s
 exact PySem.W.make_core (PySem.W.makes_of X hm) (PySem.W.looks_findIn X hi) (λ self=>PySem.W.bind_fn X self hf) (.inl rfl) h
end
noncomputable def bG (f:Str) (v:V):List (Str×V)->List (Str×V)
 | []=>[(f,v)]
 | (g,x)::r=>if g=f then (g,v)::r else (g,x)::bG f v r
theorem jc (f g:Str) (v:V):∀ fs:List (Str×V),(bG f v fs).lookup g=if g=f then some v else fs.lookup g
 | []=>by
  show E9 g [(f,v)]=_
  by_cases h:g=f
  ·have hb:(g == f)=true:=beq_iff_eq.mpr h
   simp only [E9,hb,if_pos h]
  ·have hb:(g == f)=false:=beq_eq_false_iff_ne.mpr h
   simp only [E9,hb,if_neg h]
 | (k,x)::r=>by
  have ih:=jc f g v r
  rw [show bG f v ((k,x)::r)=(if k=f then (k,v)::r else (k,x)::bG f v r) from rfl]
  by_cases hk:k=f
  ·rw [if_pos hk]
   by_cases h:g=k
   ·have hb:(g == k)=true:=beq_iff_eq.mpr h
    simp only [E9,hb,if_pos (h.trans hk)]
   ·have hb:(g == k)=false:=beq_eq_false_iff_ne.mpr h
    simp only [E9,hb,if_neg (λ e:g=f=>h (e.trans hk.symm))]
  ·rw [if_neg hk]
   by_cases h:g=k
   ·have hb:(g == k)=true:=beq_iff_eq.mpr h
    simp only [E9,hb,if_neg (λ e:g=f=>hk (h.symm.trans e))]
   ·have hb:(g == k)=false:=beq_eq_false_iff_ne.mpr h
    simp only [E9,hb]
    exact ih
theorem jd (f:Str) (v:V):∀ fs:List (Str×V),f∈(bG f v fs).map (·.1)/\∀ g,g∈fs.map (·.1)->g∈(bG f v fs).map (·.1)
 | []=>⟨by simp [bG],λ g h=>by simp at h⟩
 | (k,x)::r=>by
  obtain ⟨i1,i2⟩:=jd f v r
  rw [show bG f v ((k,x)::r)=(if k=f then (k,v)::r else (k,x)::bG f v r) from rfl]
  by_cases hk:k=f
  ·rw [if_pos hk]
   subst hk
   exact ⟨by simp,λ g h=>by simpa using h⟩
  ·rw [if_neg hk]
   refine ⟨?_,λ g h=>?_⟩
   ·rw [Er]
    exact DE _ i1
   ·rw [Er] at h ⊢
    rcases Dx.mp h with e | e
    ·exact Dx.mpr (.inl e)
    ·exact DE _ (i2 g e)
theorem je (f:Str) (v:V):∀ fs:List (Str×V),(bG f v fs).length<=fs.length+1
 | []=>by simp [bG]
 | (k,x)::r=>by
  have ih:=je f v r
  rw [show bG f v ((k,x)::r)=(if k=f then (k,v)::r else (k,x)::bG f v r) from rfl]
  by_cases hk:k=f
  ·rw [if_pos hk,DD,DD]; lia
  ·rw [if_neg hk,DD,DD]; lia
theorem RelO.some_of {v:V} {o:Option Value} (r:RelO (some v) o):∃ u,o=some u/\RelV v u:=by
 cases o with
 | none=>exact (show False from r).elim
 | some u=>exact ⟨u,rfl,r⟩
theorem RelO.none_of {o:Option Value} (r:RelO none o):o=none:=by
 cases o with
 | none=>rfl
 | some u=>exact (show False from r).elim
theorem qh {v:V} {u:Value} (r:RelV v u):Kg u=true:=by
 cases v with
 | non=>cases (show u=D8 from r); rfl
 | bl b=>cases (show u=Io b from r); rfl
 | int i=>obtain ⟨t,e⟩:=(show ∃ t,u=Hn i t from r); cases e; rfl
 | str x=>obtain ⟨t,e⟩:=(show ∃ t,u=JC x t from r); cases e; rfl
 | byt b=>obtain ⟨t,e⟩:=(show ∃ t,u=LX b t from r); cases e; rfl
 | flt b=>obtain ⟨t,e⟩:=(show ∃ t,u=Kc b t from r); cases e; rfl
 | ref a=>cases (show u=D5 a from r); rfl
 | ty n=>cases (show u=EK n from r); rfl
section
variable {P:Program} {w:World} {H H':Hp} {h h':Heap} {a C dx:Addr} {fs fs':List (Str×V)}
theorem kF (hok:HOk P w H h) (e:H a=some (.ins C dx fs)):∃ mA,ObjM h a dx C mA/\(∀ f,RelO (fs.lookup f) (mA f))/\JD mA (fs.map (·.1))/\fs.length<=1000/\H dx=some (.own a):=by
 obtain ⟨d,z,ne,ob,mA,n,r,q⟩:=(show ObjOk P w H h a (.ins C dx fs) from hok a _ e)
 exact ⟨mA,⟨ob,n,ne⟩,r,q,z,d⟩
end
structure Cls (K:C7) (C:Addr):Prop where
 pg:Gx K C Mp=true
 hd:GM K C=true
 po:Ie K C=true
 sa:DV K (.ref C) "__setattr__" = some (some (.builtin "object.__setattr__"))
theorem Cls.get {K:C7} {C:Addr} (c:Cls K C) (f:Str):Gx K C f=true:=c.pg
def NoAttr (K:C7) (C:Addr) (f:Str):Prop:=DV K (.ref C) f=some none
theorem NoAttr.taker {K:C7} {C:Addr} {f:Str} (n:NoAttr K C f):IP K C f=some none:=by
 unfold IP
 rw [show DV K (.ref C) f=some none from n]
 rfl
structure Meth (K:C7) (C:Addr) (m:Str) (f:Addr):Prop where
 at_:DV K (.ref C) m=some (some (.ref f))
 fn:EY K (.ref f)=true
 kp:Fd K (.ref f)=true
section
variable {X:Cx} {pins:List (Addr×Obj)} {σ:St} {H:Hp} {s:Shared} {a C dx:Addr} {fs:List (Str×V)} {f:Str} {v:V} {A:Around} {E:Value->Shared->Prop}
theorem ka {b:Bool} {Q:Value->Shared->Prop} (I:Inv X pins σ H s) (e:H a=some (.ins C dx fs)) (c:Cls X.K C) (n:NoAttr X.K C f) (l:fs.lookup f=some v)
  (h:∀ u s',Inv X pins σ H s'->RelV v u->Q u s'):wpAny (model X.prog X.w) A (getAttr (.ref a) f b) Q E s:=by
 obtain ⟨mA,O,r,_,_,_⟩:=kF I.hok e
 obtain ⟨u,hu,ru⟩:=RelO.some_of (v:=v) (o:=mA f) (by rw [<-l]; exact r f)
 exact wJ I.kIn O (c.get f) c.hd n hu (qh ru) (h u _ (I.tok _) ru)
theorem kc {m:Str} {g:Addr} {pl:Sem Bool} {Q:Value×List Value->Shared->Prop} (I:Inv X pins σ H s) (e:H a=some (.ins C dx fs)) (c:Cls X.K C) (k:Meth X.K C m g) (l:fs.lookup m=none)
  (h:Q (.ref g,[.ref a]) s):wpAny (model X.prog X.w) A (getMethod (.ref a) m pl) Q E s:=by
 obtain ⟨mA,O,r,_,_,_⟩:=kF I.hok e
 have hn:mA m=none:=RelO.none_of (by rw [<-l]; exact r m)
 exact uc I.kIn O (c.get m) k.at_ k.fn hn h
theorem kd {y:V} {u:Value} {Q:Unit->Shared->Prop} (I:Inv X pins σ H s) (e:H a=some (.ins C dx fs)) (c:Cls X.K C) (n:NoAttr X.K C f) (hl:fs.length<1000) (ry:RelV y u)
  (h:∀ s',Inv X pins σ (upd H a (.ins C dx (bG f y fs))) s'->Q () s'):wpAny (model X.prog X.w) A (setAttr (.ref a) f u) Q E s:=by
 obtain ⟨mA,O,r,wi,_,ho⟩:=kF I.hok e
 have hz:(fs.map (·.1)).length<=sizeLine:=by rw [C6,sizeLine_eq]; lia
 refine wK I.kIn O c.sa c.po n.taker c.hd wi hz λ h' O' sb=>h _ ?_
 have hd:∃ o,h'.get? dx=some o:=let ⟨o,_,_,e',_⟩:=O'.ns; ⟨o,e'⟩
 refine I.write (x:=a) (e:=dx) (by rw [e]; exact Dv) (.inr ho) (λ b q hb z=>(sb.2 b hb).trans z) hd ?_
 refine ⟨by rw [af O.ne]; exact ho,?_,O.ne,O'.obj,_,O'.ns,λ g=>?_,λ g hg=>?_⟩
 ·have:=je f y fs; lia
 ·show RelO ((bG f y fs).lookup g) (if g=f then some u else mA g)
  rw [jc]
  by_cases q:g=f
  ·rw [if_pos q,if_pos q]; exact ry
  ·rw [if_neg q,if_neg q]; exact r g
 ·by_cases q:g=f
  ·rw [q]; exact (jd f y fs).1
  ·refine (jd f y fs).2 g (wi g λ z=>hg ?_)
   show (if g=f then some u else mA g)=none
   rw [if_neg q]; exact z
theorem Inv.made (I:Inv X pins σ H s):Inv X pins σ (upd (upd H s.heap.objs.size (.own (s.heap.objs.size+1))) (s.heap.objs.size+1) (.ins C s.heap.objs.size []))
  { s with heap:=(s.heap.push EW).push (Fh C s.heap.objs.size) }:=by
 have e1:(s.heap.push EW).get? s.heap.objs.size=some EW:=DB s.heap rfl
 have e2:((s.heap.push EW).push (Fh C s.heap.objs.size)).get? (s.heap.objs.size+1)=some (Fh C s.heap.objs.size):=by
  have:=DB (s.heap.push EW) (o:=Fh C s.heap.objs.size) rfl
  rwa [GJ] at this
 have e3:(s.heap.push EW).Ns s.heap.objs.size (λ _=>none):=⟨EW,#[],_,e1,rfl,(λ e he=>absurd he (by simp)),λ _=>rfl⟩
 have I1:=I.laid (a:=s.heap.objs.size) (o:=.own (s.heap.objs.size+1)) (h':=s.heap.push EW) (t':=s.toks) (λ b u q=>Dd _ q) (C8 _) ⟨_,e1⟩
 refine I1.laid (a:=s.heap.objs.size+1) (o:=.ins C s.heap.objs.size []) (t':=s.toks) (λ b u q=>Dd _ q) (EZ (GJ _ _)) ?_
 have ne:s.heap.objs.size≠s.heap.objs.size+1:=Dw (Fu _)
 refine ⟨by rw [af ne,ab],Du _,ne,e2,λ _=>none,(My e3).at λ o q=>Dd _ q,λ _=>Dv,λ y hy=>absurd rfl hy⟩
theorem wL {prog:Program} {w:World} {env:Env} {e:Expr} {f:Str} {pos:Pos} {s:Shared} {Q:Value->Shared->Prop} (hb:attributeBase e f env (eval e env)=eval e env)
  (h:wpAny (model prog w) A (eval e env) (λ o s₁=>wpAny (model prog w) A (getAttr o f true) Q E s₁) E s):wpAny (model prog w) A (eval (.Attribute e f pos) env) Q E s:=
 Attribute_any_ h (by rw [arm_eval_Attribute,hb])
end
def Ba (K:C7) (ta:TE) (f:Str):TE:=λ σ H Q=>ta σ H λ x H1=>∃ a C dx fs v,x=.ref a/\H1 a=some (.ins C dx fs)/\Cls K C/\NoAttr K C f/\fs.lookup f=some v/\Q v H1
def Bb (K:C7) (ta tv:TE) (f:Str):TS:=λ D σ H=>tv σ H λ y H1=>ta σ H1 λ x H2=>∃ a C dx fs,x=.ref a/\H2 a=some (.ins C dx fs)/\Cls K C/\NoAttr K C f/\fs.length<1000/\
 D.nx σ (upd H2 a (.ins C dx (bG f y fs)))
def Cz (X:Cx) (op:Operator) (rd:V->V->Hp->VK->Prop):Prop:=
 ∀ (pins:List (Addr×Obj)) (s:Shared) (σ:St) (H:Hp) (x y:V) (u v:Value) (Q:VK),Inv X pins σ H s->RelV x u->RelV y v->rd x y H Q->wpAny (model X.prog X.w) X.A (inplaceOp op u v) (EP X pins σ Q) X.xe s
def mR (K:C7) (ta tv:TE) (rd:V->V->Hp->VK->Prop) (f:Str):TS:=λ D σ H=>ta σ H λ x H1=>∃ a C dx fs v,x=.ref a/\H1 a=some (.ins C dx fs)/\Cls K C/\NoAttr K C f/\fs.lookup f=some v/\
 tv σ H1 λ y H2=>rd v y H2 λ z H3=>∃ dx' fs',H3 a=some (.ins C dx' fs')/\fs'.length<1000/\D.nx σ (upd H3 a (.ins C dx' (bG f z fs')))
section
variable {X:Cx} {o e value:Expr} {f:Str} {pos pos' tpos:Pos} {ta tv:TE}
theorem zb (he:PE X e ta) (hb:attributeBase e f X.env (eval e X.env)=eval e X.env):PE X (.Attribute e f pos) (Ba X.K ta f):=by
 intro pins s σ H Q I h
 refine wL hb (thn (he pins s σ H _ I h) λ u s1 ⟨x,H1,I1,rx,a,C,dx,fs,v,ex,ea,c,n,l,q⟩=>?_)
 subst ex
 obtain rfl:u=D5 a:=rx
 exact ka I1 ea c n l λ u' s2 I2 ru=>⟨v,H1,I2,ru,q⟩
theorem zc (ha:PE X o ta) (hv:PE X value tv) (hs:swapsWith value (some (.Attribute o f pos')) pos.line X.env=pure false):PS X (.Assign [.Attribute o f pos'] value pos) (Bb X.K ta tv f):=by
 intro pins s σ H D I h
 refine plainObj_wpAny_Assign_Attribute (thn (hv pins s σ H _ I h) λ u s1 ⟨y,H1,I1,ry,q⟩=>thn (ha pins s1 σ H1 _ I1 q) λ ov s2 ⟨x,H2,I2,rx,a,C,dx,fs,ex,ea,c,n,l,q2⟩=>?_) hs
 subst ex
 obtain rfl:ov=D5 a:=rx
 exact kd I2 ea c n l ry λ s3 I3=>⟨σ,_,I3,q2⟩
theorem qi {op:Operator} {rd:V->V->Hp->VK->Prop} (ha:PE X o ta) (hv:PE X value tv) (hop:Cz X op rd):PS X (.AugAssign (.Attribute o f tpos) op value pos) (mR X.K ta tv rd f):=by
 intro pins s σ H D I h
 refine wpAny_AugAssign_AttributeAny (thn (ha pins s σ H _ I h) λ ov s1 ⟨x,H1,I1,rx,a,C,dx,fs,v,ex,ea,c,n,l,q⟩=>?_)
 subst ex
 obtain rfl:ov=D5 a:=rx
 refine ka I1 ea c n l λ u s2 I2 ru=>thn (hv pins s2 σ H1 _ I2 q) λ w3 s3 ⟨y,H2,I3,ry,q3⟩=>thn (hop pins s3 σ H2 v y u w3 _ I3 ru ry q3) λ w4 s4 ⟨z,H3,I4,rz,dx',fs',ea',l',q4⟩=>?_
 exact kd I4 ea' c n l' rz λ s5 I5=>⟨σ,_,I5,q4⟩
end
section
variable {X:Cx} {pins:List (Addr×Obj)} {σ:St} {H:Hp} {s:Shared} {A:Around} {E:Value->Shared->Prop} {Q:Value->Shared->Prop} {c:Value} {b:Bool}
inductive TyOf (K:C7) (H:Hp):V->Value->Prop where
 | non:TyOf K H .non (.type "NoneType")
 | bl (x:Bool):TyOf K H (.bl x) (.type "bool")
 | int (i:Int):TyOf K H (.int i) (.type "int")
 | str (x:Str):TyOf K H (.str x) (.type "str")
 | flt (x:UInt64):TyOf K H (.flt x) (.type "float")
 | lst {a:Addr} {xs:List V} (e:H a=some (.lst xs)):TyOf K H (.ref a) (.type "list")
 | frz {a:Addr} {o:Obj} {xs:List V} (e:H a=some (.frz o (.lst xs))):TyOf K H (.ref a) (.type "list")
 | tup {a:Addr} {xs:List V} (e:H a=some (.tup xs)):TyOf K H (.ref a) (.type "tuple")
 | dK {a:Addr} {kvs:List (Key×V)} (e:H a=some (.dK kvs)):TyOf K H (.ref a) (.type "dict")
 | dT {a:Addr} {kvs:List (List Key×V)} (e:H a=some (.dT kvs)):TyOf K H (.ref a) (.type "dict")
 | ins {a C dx:Addr} {fs:List (Str×V)} (e:H a=some (.ins C dx fs)) (cl:Cls K C) (ha:DV K (.ref C) "__class__" = some (some (.builtin "object.__class__")))
   (hn:PySem.W.specialIn K (.builtin "object.__class__") "__get__" = some (some (.builtin "getset_descriptor.__get__"))) (htk:PySem.W.takesIn K (.builtin "object.__class__")=some true)
   (hm:PySem.W.mroIn K C (.type "object")=some true):TyOf K H (.ref a) (.ref C)
theorem qj {x:V} {u t:Value} (I:Inv X pins σ H s) (rx:RelV x u) (ty:TyOf X.K H x t) (e:Gs X.K t c=some b) (h:∀ tk,Q (.bool b) { s with toks:=tk }) :
  wpAny (model X.prog X.w) A (call (.builtin "isinstance") [u,c]) Q E s:=by
 cases ty with
 | non=>cases (show u=D8 from rx); exact EQ JR I.kIn Dv e (λ z=>nomatch z) h
 | bl y=>cases (show u=Io y from rx); exact EQ JS I.kIn Dv e (λ z=>nomatch z) h
 | int i=>obtain ⟨t,q⟩:=(show ∃ t,u=Hn i t from rx); cases q; exact EQ Kh I.kIn Dv e (λ z=>nomatch z) h
 | str y=>obtain ⟨t,q⟩:=(show ∃ t,u=JC y t from rx); cases q; exact EQ Ki I.kIn Dv e (λ z=>nomatch z) h
 | flt y=>obtain ⟨t,q⟩:=(show ∃ t,u=Kc y t from rx); cases q; exact EQ PySem.W.kitx_float I.kIn Dv e (λ z=>nomatch z) h
 | @lst a xs ea=>
  cases (show u=D5 a from rx)
  obtain ⟨_,_,n,_,h1⟩:=(show ObjOk X.prog X.w H s.heap a (.lst xs) from I.hok a _ ea)
  exact EQ Ig I.kIn ⟨_,h1,rfl⟩ e (λ z=>nomatch z) h
 | @frz a ob xs ea=>
  cases (show u=D5 a from rx)
  obtain ⟨_,_,_,n,_,h1⟩:=(show ObjOk X.prog X.w H s.heap a (.frz ob (.lst xs)) from I.hok a _ ea)
  exact EQ Ig I.kIn ⟨_,h1,rfl⟩ e (λ z=>nomatch z) h
 | @tup a xs ea=>
  cases (show u=D5 a from rx)
  obtain ⟨_,_,_,p⟩:=(show ObjOk X.prog X.w H s.heap a (.tup xs) from I.hok a _ ea)
  obtain ⟨o,h1,h2,_⟩:=p
  exact EQ JF I.kIn ⟨o,h1,h2⟩ e (λ z=>nomatch z) h
 | @dK a kvs ea=>
  cases (show u=D5 a from rx)
  obtain ⟨_,_,vs,_,p⟩:=(show ObjOk X.prog X.w H s.heap a (.dK kvs) from I.hok a _ ea)
  obtain ⟨o,es,ep,h1,h2,_⟩:=p
  exact EQ JT I.kIn ⟨o,h1,h2.1⟩ e (λ z=>nomatch z) h
 | @dT a kvs ea=>
  cases (show u=D5 a from rx)
  obtain ⟨_,_,xs,_,o,es,ep,h1,h2,_⟩:=(show ObjOk X.prog X.w H s.heap a (.dT kvs) from I.hok a _ ea)
  exact EQ JT I.kIn ⟨o,h1,h2.1⟩ e (λ z=>nomatch z) h
 | @ins a C dx fs ea cl ha hn htk hm=>
  cases (show u=D5 a from rx)
  obtain ⟨mA,O,_⟩:=kF I.hok ea
  obtain ⟨od,J,_⟩:=O.look
  exact EQ (PySem.W.kitx_own (cl.get _) cl.hd ha hn htk hm) I.kIn J e (λ z=>nomatch z) h
end
structure Room (k:Nat) (A:Around):Prop where
 hd:A.handled=none
 dp:A.depth+3*k+5<recursionLimit
 un:A.units+16*k+200<cLine
 gd:A.guards=some []
theorem Room.mono {j k:Nat} {A:Around} (r:Room k A) (h:j<=k):Room j A:=⟨r.hd,by have:=r.dp; lia,by have:=r.un; lia,r.gd⟩
theorem Room.deeper {k:Nat} {A:Around} (r:Room (k+1) A) (env:Env):Room k (A.deeper env):=
 ⟨r.hd,by have:=r.dp; show A.depth+1+3*k+5<_; lia,by have:=r.un; show A.units+3+16*k+200<_; lia,r.gd⟩
theorem oU {A:Around} {C:Addr} {us:List Value} {kw:List (Str×Value)}:(A.under (.builtin "type.__call__" ⟨.ref C::us,kw⟩)).depth=A.depth+1:=by
 first | rfl | simp [Iw,Code.weight,Code.isCreation,LG,Code.isCaller,L6,JG,guardIds]
theorem oV {A:Around} {C:Addr} {us:List Value} {kw:List (Str×Value)}:(A.under (.builtin "type.__call__" ⟨.ref C::us,kw⟩)).units=A.units+1:=by
 first | rfl | simp [Iw,Code.cUnits,L6,JG]
theorem Room.make {k:Nat} {A:Around} (r:Room (k+1) A) (C:Addr) (us:List Value) (kw:List (Str×Value)):Room k (A.under (.builtin "type.__call__" ⟨.ref C::us,kw⟩)):=
 ⟨r.hd,by have:=r.dp; rw [oU]; lia,by have:=r.un; rw [oV]; lia,by first | exact r.gd | (simp [Iw,Code.guards,LG,guardIds,pushGuards,r.gd])⟩
theorem Room.depth {k:Nat} {A:Around} (r:Room k A):A.depth<recursionLimit:=by have:=r.dp; lia
theorem Room.units {k:Nat} {A:Around} (r:Room k A):A.units+64<cLine:=by have:=r.un; lia
theorem Room.units0 {k:Nat} {A:Around} (r:Room k A):A.units<cLine:=by have:=r.un; lia
def zd:TA:=λ _ H Q=>Q [] H
def ue (ta:TE) (tr:TA):TA:=λ σ H Q=>ta σ H λ x H1=>tr σ H1 λ xs H2=>Q (x::xs) H2
section
variable {X:Cx} {e:Expr} {es:List Expr} {te:TE} {t:TA} {pos:Pos}
theorem ze:PA X [] zd:=λ _ _ _ _ H Q I h=>Ih ⟨[],H,I,.nil,h⟩
theorem wM (ha:PE X e te) (hr:PA X es t) (hs:starEach (e::es) X.env=(false,eval e X.env)::starEach es X.env:=by rfl):PA X (e::es) (ue te t):=by
 intro pos pins s σ H Q I h
 rw [hs]
 show wpAny _ _ (spliced ((false,eval e X.env)::backTo pos (starEach es X.env))) _ _ s
 refine Ho (thn (ha pins s σ H _ I h) λ u s1 ⟨x,H1,I1,r1,q1⟩=>?_)
 exact thn (hr pos pins s1 σ H1 _ I1 q1) λ us s2 ⟨xs,H2,I2,r2,q2⟩=>⟨x::xs,H2,I2,.cons r1 r2,q2⟩
def Bc (t:TA):TE:=λ σ H Q=>t σ H λ xs H1=>xs.length<=sizeLine/\∀ p,H1 p=none->Q (.ref p) (upd H1 p (.tup xs))
def Bd (t:TA):TE:=λ σ H Q=>t σ H λ xs H1=>xs.length<=sizeLine/\∀ p,H1 p=none->Q (.ref p) (upd H1 p (.lst xs))
theorem zf {x1} (h:PA X es t):PE X (.Tuple es x1 pos) (Bc t):=by
 intro pins s σ H Q I hq
 refine wpAny_Tuple_spliced (thn (h pos pins s σ H _ I hq) λ us s1 ⟨xs,H1,I1,r,z,q⟩=>⟨by rw [<-r.length]; exact z,?_⟩)
 have hf:H1 s1.heap.objs.size=none:=I1.hok.fresh (C8 _)
 refine ⟨.ref s1.heap.objs.size,upd H1 s1.heap.objs.size (.tup xs),I1.laid (t':=s1.toks) (λ b u e=>Dd _ e) (C8 _) ?_,rfl,q _ hf⟩
 exact ⟨z,us,r,⟨_,DB _ rfl,rfl,_,rfl⟩⟩
theorem zg (h:PA X es t):PE X (.List es pos) (Bd t):=by
 intro pins s σ H Q I hq
 refine wpAny_List_spliced (thn (h pos pins s σ H _ I hq) λ us s1 ⟨xs,H1,I1,r,z,q⟩=>⟨by rw [<-r.length]; exact z,?_⟩)
 have hf:H1 s1.heap.objs.size=none:=I1.hok.fresh (C8 _)
 refine ⟨.ref s1.heap.objs.size,upd H1 s1.heap.objs.size (.lst xs),I1.laid (t':=s1.toks) (λ b u e=>Dd _ e) (C8 _) ?_,rfl,q _ hf⟩
 exact ⟨z,us,0,r,DB _ rfl⟩
end
noncomputable abbrev Sp:=List V->Hp->VK->XK->Prop
noncomputable abbrev CXT:=List Env->Hp->Shared->XK->Value->Shared->Prop
structure Env0 (P:Program) (w:World) (K:C7) (mg:Str->Option Value) (base:Heap) (A:Around) (outer:List Env) (s:Shared) (H:Hp):Prop where
 frames:A.frames=some outer
 mod:Mod K mg base
 bs:∀ b o,base.get? b=some o->s.heap.get? b=some o/\H b=none
 bsz:base.objs.size<=s.heap.objs.size
 funs:s.heap.FunFrames base outer
 frf:∀ b∈frs outer,H b=none
 hok:HOk P w H s.heap
 bare:AllBare s.gens
def CE (outer:List Env) (P:Program) (w:World) (H:Hp) (s:Shared) (Q:VK) (u:Value) (s':Shared):Prop:=
 ∃ v H',s'.os=s.os/\AllBare s'.gens/\Un (frs outer) [] H H' s.heap s'.heap/\HOk P w H' s'.heap/\RelV v u/\Q v H'
def CR (CX:CXT) (outer:List Env) (P:Program) (w:World) (H:Hp) (s:Shared) (Q:VK) (E:XK) (r:Result) (s':Shared):Prop:=
 match r with
 | .ok (.ret u)=>CE outer P w H s Q u s'
 | .ok _=>False
 | .error e=>CX outer H s E e s'
structure FnOk (P:Program) (w:World) (K:C7) (mg:Str->Option Value) (base:Heap) (CX:CXT) (k:Nat) (f:Addr) (fd:FuncData) (ps:List Str) (sp:Sp):Prop where
 len:∀ vs H Q E,sp vs H Q E->vs.length=ps.length
 run:∀ (A:Around) (outer:List Env) (s:Shared) (H:Hp) (args:Args) (us:List Value) (vs:List V) (Q:VK) (E:XK),Room k A->Env0 P w K mg base A outer s H->BindsTo s fd args (ps.zip us)->Vals vs us->sp vs H Q E->
  codeAny (model P w) A (.call (.ref f) args) (CR CX outer P w H s Q E) s
theorem Env0.make {P:Program} {w:World} {K:C7} {mg:Str->Option Value} {base:Heap} {A:Around} {outer:List Env} {s:Shared} {H:Hp} (e:Env0 P w K mg base A outer s H) (C:Addr) (us:List Value) (kw:List (Str×Value)) :
  Env0 P w K mg base (A.under (.builtin "type.__call__" ⟨.ref C::us,kw⟩)) outer s H:=⟨by first | exact e.frames | (simpa [Iw,Code.envs,JG,pushEnvs] using e.frames),e.mod,e.bs,e.bsz,e.funs,e.frf,e.hok,e.bare⟩
section
variable {X:Cx} {pins:List (Addr×Obj)} {σ:St} {H:Hp} {s s':Shared}
theorem Inv.env0 (I:Inv X pins σ H s):Env0 X.prog X.w X.K X.mg X.base X.A X.stack s H:=
 ⟨I.ok.frames,I.ok.mod,I.bs,D9 I.ok.bsz I.sz,I.stack,I.stkFree,I.hok,I.bare⟩
theorem Inv.after {Q:VK} {u:Value} (I:Inv X pins σ H s) (h:CE X.stack X.prog X.w H s Q u s'):EP X pins σ Q u s':=by
 obtain ⟨v,H',os,bare,un,hok,r,q⟩:=h
 obtain ⟨hh,g,d,t,os'⟩:=s'
 obtain rfl:os'=s.os:=os
 exact ⟨v,H',I.call (h':=hh) (g':=g) (d':=d) (t':=t) (ch:=[]) un hok bare (λ b z=>absurd z (by simp)),r,q⟩
end
def uf (sp:Sp) (dvs:List V) (E:XK) (t:TA):TE:=λ σ H Q=>t σ H λ vs H1=>sp (vs++dvs) H1 Q E
def qk (C:Addr) (m:Str) (sp:Sp) (dvs:List V) (E:XK) (ta:TE) (t:TA):TE:=λ σ H Q=>ta σ H λ x H1=>∃ a dx fs,x=.ref a/\H1 a=some (.ins C dx fs)/\fs.lookup m=none/\
 t σ H1 λ vs H2=>sp (x::(vs++dvs)) H2 Q E
def wN (C:Addr) (sp:Sp) (dvs:List V) (E:XK) (t:TA):TE:=λ σ H Q=>t σ H λ vs H1=>∀ x dx,H1 x=none->H1 dx=none->dx≠x->
 sp (.ref x::(vs++dvs)) (upd (upd H1 dx (.own x)) x (.ins C dx [])) (λ v H2=>v=.non/\Q (.ref x) H2) E
def Binds (K:C7) (fd:FuncData) (ps:List Str) (ds:List Value):Prop:=
 ∀ (s:Shared) (us:List Value),K.In s.heap->(us++ds).length=ps.length->BindsTo s fd ⟨us,[]⟩ (ps.zip (us++ds))
theorem Binds.all {K:C7} {fd:FuncData} {ps:List Str} (h:∀ us:List Value,us.length=ps.length->bindArgs fd ⟨us,[]⟩=pure (ps.zip us)):Binds K fd ps []:=λ s us _ hl=>by
 rw [Ef] at hl ⊢
 exact .of_eq (h us hl)
def eh (CX:CXT) (X:Cx) (E:XK):Prop:=∀ (pins:List (Addr×Obj)) (σ:St) (H:Hp) (s:Shared) (e:Value) (s':Shared),Inv X pins σ H s->CX X.stack H s E e s'->X.xe e s'
section
variable {X:Cx} {CX:CXT} {k:Nat} {f C:Addr} {fd:FuncData} {ps:List Str} {sp:Sp} {dvs:List V} {ds:List Value} {E:XK} {x m:Str} {p pos apos:Pos} {e o:Expr} {es:List Expr} {ta:TE} {t:TA}
theorem ql {pins:List (Addr×Obj)} {σ:St} {H:Hp} {s:Shared} {Q:VK} {us:List Value} {vs:List V} (F:FnOk X.prog X.w X.K X.mg X.base CX k f fd ps sp) (hr:Room k X.A) (hb:Binds X.K fd ps ds) (hd:Vals dvs ds) (hx:eh CX X E)
  (I:Inv X pins σ H s) (r:Vals vs us) (h:sp (vs++dvs) H Q E):wpAny (model X.prog X.w) X.A (call (.ref f) us) (EP X pins σ Q) X.xe s:=by
 have r2:Vals (vs++dvs) (us++ds):=r.append hd
 have hl:(us++ds).length=ps.length:=by rw [<-r2.length]; exact F.len _ _ _ _ h
 refine wpAny_call (codeAny_mono (F.run X.A X.stack s H ⟨us,[]⟩ (us++ds) (vs++dvs) Q E hr I.env0 (hb s us I.kIn hl) r2 h) λ r s' hq=>?_)
 cases r with
 | error e=>exact hx pins σ H s e s' I hq
 | ok fl=>
  cases fl with
  | ret u=>exact I.after hq
  | next=>exact Fa hq
  | brk=>exact Fa hq
  | cont=>exact Fa hq
theorem wO (F:FnOk X.prog X.w X.K X.mg X.base CX k f fd ps sp) (hr:Room k X.A) (hg:Gl X x) (hm:X.mg x=some (.ref f)) (hk:Fd X.K (.ref f)=true) (hb:Binds X.K fd ps ds) (hd:Vals dvs ds) (hx:eh CX X E)
  (ha:PA X (e::es) t) (hdb:(x == ("__debug__" : Str))=false:=by decide) (he:starEach (e::es) X.env=(false,eval e X.env)::starEach es X.env:=by rfl) (hpl:(backTo pos (starEach es X.env)).any (·.1)=false:=by rfl) :
  PE X (.Call (.Name x p) (e::es) [] pos) (uf sp dvs E t):=by
 intro pins s σ H Q I h
 refine wpAny_Call_Name_kw (pZ I hg hm ?_ hdb)
 refine Hq (h₀:=X.base) I.ok.mod.kin hk (thn (ha pos pins s σ H _ I h) λ us s1 ⟨vs,H1,I1,r,q⟩=>⟨I1.kIn,?_⟩) he hpl
 exact ql F hr hb hd hx I1 r q
theorem wP {pl:Sem Bool} (he:PE X o ta) (c:Cls X.K C) (hm:Meth X.K C m f) (F:FnOk X.prog X.w X.K X.mg X.base CX k f fd ps sp) (hr:Room k X.A) (hb:Binds X.K fd ps ds) (hd:Vals dvs ds) (hx:eh CX X E) (ha:PA X (e::es) t)
  (hst:starEach (e::es) X.env=(false,eval e X.env)::starEach es X.env:=by rfl) (hpl:(backTo pos (starEach es X.env)).any (·.1)=false:=by rfl)
  (ht:eval (.Call (.Attribute o m apos) (e::es) [] pos) X.env=(do
   let ov <-eval o X.env
   standAt apos.atName
   let (f,first) <-holding [ov] (getMethod ov m pl)
   callWith pos f first (backTo pos (starEach (e::es) X.env)) (backToKw pos (keywordEach [] X.env))):=by rfl) :
  PE X (.Call (.Attribute o m apos) (e::es) [] pos) (qk C m sp dvs E ta t):=by
 intro pins s σ H Q I h
 refine I0 (pl:=pl) (thn (he pins s σ H _ I h) λ u s1 ⟨x,H1,I1,rx,a,dx,fs,ex,ea,l,q⟩=>?_) ht
 subst ex
 obtain rfl:u=D5 a:=rx
 refine kc I1 ea c hm l ?_
 refine Hq (first:=[.ref a]) (h₀:=X.base) I.ok.mod.kin hm.kp (thn (ha pos pins s1 σ H1 _ I1 q) λ us s2 ⟨vs,H2,I2,r,q2⟩=>⟨I2.kIn,?_⟩) hst hpl
 exact ql (us:=.ref a::us) (vs:=.ref a::vs) F hr hb hd hx I2 (.cons rfl r) q2
theorem ug {pl:Sem Bool} (he:PE X o ta) (c:Cls X.K C) (hm:Meth X.K C m f) (F:FnOk X.prog X.w X.K X.mg X.base CX k f fd ps sp) (hr:Room k X.A) (hb:Binds X.K fd ps ds) (hd:Vals dvs ds) (hx:eh CX X E)
  (ht:eval (.Call (.Attribute o m apos) [] [] pos) X.env=(do
   let ov <-eval o X.env
   standAt apos.atName
   let (f,first) <-holding [ov] (getMethod ov m pl)
   callWith pos f first (backTo pos (starEach [] X.env)) (backToKw pos (keywordEach [] X.env))):=by rfl) :
  PE X (.Call (.Attribute o m apos) [] [] pos) (qk C m sp dvs E ta zd):=by
 intro pins s σ H Q I h
 refine I0 (pl:=pl) (thn (he pins s σ H _ I h) λ u s1 ⟨x,H1,I1,rx,a,dx,fs,ex,ea,l,q⟩=>?_) ht
 subst ex
 obtain rfl:u=D5 a:=rx
 refine kc I1 ea c hm l ?_
 exact PySem.W.callWith_K0 (first:=[.ref a]) I1.kIn hm.kp (ql (us:=[.ref a]) (vs:=[.ref a]) F hr hb hd hx I1 (.cons rfl .nil) q)
structure Mk (K:C7) (C f:Addr):Prop where
 makes:IQ K C=true
 init:DV K (.ref C) "__init__" = some (some (.ref f))
 fn:EY K (.ref f)=true
 kp:Fd K (.ref C)=true
theorem uh {pins:List (Addr×Obj)} {σ:St} {H:Hp} {s:Shared} {Q:VK} {us:List Value} {vs:List V} (M:Mk X.K C f) (F:FnOk X.prog X.w X.K X.mg X.base CX k f fd ps sp) (hr:Room (k+1) X.A) (hb:Binds X.K fd ps ds) (hd:Vals dvs ds)
  (hx:eh CX X E) (I:Inv X pins σ H s) (r:Vals vs us)
  (h:∀ x dx,H x=none->H dx=none->dx≠x->sp (.ref x::(vs++dvs)) (upd (upd H dx (.own x)) x (.ins C dx [])) (λ v H2=>v=.non/\Q (.ref x) H2) E) :
  wpAny (model X.prog X.w) X.A (call (.ref C) us) (EP X pins σ Q) X.xe s:=by
 have hq:=h (s.heap.objs.size+1) s.heap.objs.size (I.hok.fresh (FO _)) (I.hok.fresh (C8 _)) (Dw (Fu _))
 have I2:=Inv.made (C:=C) I
 have r2:Vals (V.ref (s.heap.objs.size+1)::(vs++dvs)) (D5 (s.heap.objs.size+1)::(us++ds)):=.cons rfl (r.append hd)
 have hl:(D5 (s.heap.objs.size+1)::us++ds).length=ps.length:=by
  have e:=r2.length
  rw [F.len _ _ _ _ hq] at e
  exact e.symm
 refine wpAny_call (ud (f:=f) I.kIn M.makes M.init (beq_iff_eq.mp M.fn) (codeAny_mono (F.run _ X.stack _ _ ⟨D5 (s.heap.objs.size+1)::us,[]⟩ (D5 (s.heap.objs.size+1)::(us++ds)) _ _ E (hr.make C us [])
  (I2.env0.make C us []) (hb _ (D5 (s.heap.objs.size+1)::us) I2.kIn hl) r2 hq) λ r s' hq'=>?_))
 cases r with
 | error e=>exact hx pins σ _ _ e s' I2 hq'
 | ok fl=>
  cases fl with
  | ret u=>
   obtain ⟨v,H',I3,rv,ev,q3⟩:=I2.after hq'
   subst ev
   exact ⟨rv,⟨V.ref (s.heap.objs.size+1),H',I3,rfl,q3⟩⟩
  | next=>exact Fa hq'
  | brk=>exact Fa hq'
  | cont=>exact Fa hq'
theorem wQ (M:Mk X.K C f) (F:FnOk X.prog X.w X.K X.mg X.base CX k f fd ps sp) (hr:Room (k+1) X.A) (hg:Gl X x) (hm:X.mg x=some (.ref C)) (hb:Binds X.K fd ps ds) (hd:Vals dvs ds) (hx:eh CX X E)
  (ha:PA X (e::es) t) (hdb:(x == ("__debug__" : Str))=false:=by decide) (he:starEach (e::es) X.env=(false,eval e X.env)::starEach es X.env:=by rfl) (hpl:(backTo pos (starEach es X.env)).any (·.1)=false:=by rfl) :
  PE X (.Call (.Name x p) (e::es) [] pos) (wN C sp dvs E t):=by
 intro pins s σ H Q I h
 refine wpAny_Call_Name_kw (pZ I hg hm ?_ hdb)
 refine Hq (h₀:=X.base) I.ok.mod.kin M.kp (thn (ha pos pins s σ H _ I h) λ us s1 ⟨vs,H1,I1,r,q⟩=>⟨I1.kIn,?_⟩) he hpl
 exact uh M F hr hb hd hx I1 r q
end
section
variable {X:Cx} {CX:CXT} {k:Nat} {f C:Addr} {fd:FuncData} {ps ks:List Str} {sp:Sp} {E:XK} {x m:Str} {p pos apos kpos:Pos} {e o:Expr} {es:List Expr} {kws:List Keyword} {te ta:TE} {t tk:TA} {nm:Option Str}
variable {g:List Value->List Value->List Value} {gV:List V->List V->List V}
end
structure FnScope (N P:List Str) (sc:Scope):Prop where
 kind:sc.kind=.function
 co:sc.isCoroutine=false
 gen:sc.isGenerator=false
 nd:N.Nodup
 pre:N.take P.length=P
 par:∀ x∈P,sc.names.lookup x=some .local\/sc.names.lookup x=some .cell
 nofree:∀ y∈sc.names,y.2≠.free
theorem lR {kindOf:Str->Option NameKind} {x:Str}:∀ {binds:List (Str×Value)} {m:Str->Option Value},(∀ v,(x,v)∉binds)->bindL kindOf binds m x=m x
 | [],_,_=>rfl
 | (n,v)::r,m,h=>by
  unfold bindL
  rw [lR λ w hw=>h w (DE _ hw)]
  split
  ·have:x≠n:=by rintro rfl; exact h v DF
   simp [this]
  ·rfl
theorem lS {kindOf:Str->Option NameKind} {x:Str}:∀ {binds:List (Str×Value)} {m:Str->Option Value},(∀ v,(x,v)∉binds)->bindC kindOf binds m x=m x
 | [],_,_=>rfl
 | (n,v)::r,m,h=>by
  unfold bindC
  rw [lS λ w hw=>h w (DE _ hw)]
  split
  ·rfl
  ·have:x≠n:=by rintro rfl; exact h v DF
   simp [this]
theorem lT {kindOf:Str->Option NameKind} {x:Str} {v:Value}:∀ {P:List Str} {vs:List Value} {i:Nat} {m:Str->Option Value},P.Nodup->P[i]? = some x->vs[i]? = some v->kindOf x=some .local->
  bindL kindOf (P.zip vs) m x=some v
 | [],_,_,_,_,h,_,_=>by simp at h
 | _::_,[],_,_,_,_,h,_=>by simp at h
 | p::P,w::vs,0,m,nd,h1,h2,hk=>by
  simp at h1 h2; subst h1; subst h2
  show bindL kindOf ((p,w)::P.zip vs) m p=_
  unfold bindL
  rw [lR λ v hv=>(FA.mp nd).1 (IR hv).1,if_pos hk]
  simp
 | p::P,w::vs,i+1,m,nd,h1,h2,hk=>by
  show bindL kindOf ((p,w)::P.zip vs) m x=_
  unfold bindL
  exact lT (i:=i) (FA.mp nd).2 (by simpa using h1) (by simpa using h2) hk
theorem lU {kindOf:Str->Option NameKind} {x:Str} {v:Value}:∀ {P:List Str} {vs:List Value} {i:Nat} {m:Str->Option Value},P.Nodup->P[i]? = some x->vs[i]? = some v->kindOf x≠some .local->
  bindC kindOf (P.zip vs) m x=some v
 | [],_,_,_,_,h,_,_=>by simp at h
 | _::_,[],_,_,_,_,h,_=>by simp at h
 | p::P,w::vs,0,m,nd,h1,h2,hk=>by
  simp at h1 h2; subst h1; subst h2
  show bindC kindOf ((p,w)::P.zip vs) m p=_
  unfold bindC
  rw [lS λ v hv=>(FA.mp nd).1 (IR hv).1,if_neg hk]
  simp
 | p::P,w::vs,i+1,m,nd,h1,h2,hk=>by
  show bindC kindOf ((p,w)::P.zip vs) m x=_
  unfold bindC
  exact lU (i:=i) (FA.mp nd).2 (by simpa using h1) (by simpa using h2) hk
noncomputable def start (N:List Str) (vs:List V):St:=vs.map some++DC (N.length - vs.length) none
noncomputable def wR (CX:CXT) (P:Program) (w:World) (K:C7) (mg:Str->Option Value) (base:Heap) (N:List Str) (qual:Str) (scope:Scope) (f:Addr) (cd:Value) (A:Around) (outer:List Env) (s:Shared) (H:Hp) (E:XK):Cx where
 prog:=P
 w:=w
 K:=K
 mg:=mg
 base:=base
 A:=A.deeper (envOfC qual scope s.heap.objs.size f cd)
 N:=N
 s₀:=s
 H₀:=H
 env:=envOfC qual scope s.heap.objs.size f cd
 outer:=outer
 stack:=envOfC qual scope s.heap.objs.size f cd::outer
 ex:=[]
 calm:=true
 fn:=λ _=>true
 pn:=[]
 xe:=λ e s'=>wpAny (model P w) (A.deeper (envOfC qual scope s.heap.objs.size f cd)) (leaving (envOfC qual scope s.heap.objs.size f cd) e) (λ _ s''=>CX outer H s E e s'') (λ e' s''=>CX outer H s E e' s'') s'
theorem nN {sc:Scope} {n:Nat} {x:Str} (h:sc.names.lookup x=some .cell):∃ c,(cellsFrom n sc.names []).lookup x=some c:=by
 have q:=IV sc.names n [] (.inl h)
 exact GE.mp q
theorem qo {CX:CXT} {P:Program} {w:World} {K:C7} {mg:Str->Option Value} {base:Heap} {N ps:List Str} {qual:Str} {scope:Scope} {f:Addr} {cd:Value} {A:Around} {outer:List Env} {s s1:Shared} {H:Hp} {E:XK} {us:List Value} {vs:List V}
  (S:FnScope N ps scope) (hd:A.handled=none) (e0:Env0 P w K mg base A outer s H) (hl:vs.length=ps.length) (r:Vals vs us)
  (x:InCallC s s.heap.objs.size (bindL (envOfC qual scope s.heap.objs.size f cd).kindOf (ps.zip us) λ _=>none) (cellsFrom (s.heap.objs.size+1) scope.names []) (bindC (envOfC qual scope s.heap.objs.size f cd).kindOf (ps.zip us) λ _=>none) s1) :
  Inv (wR CX P w K mg base N qual scope f cd A outer s H E) [] (start N vs) H s1:=by
 have hpl:ps.length<=N.length:=by have:=congrArg L7 S.pre; rw [Df] at this; lia
 obtain ⟨h1,tk,rfl,hk⟩:=x.done
 have noA:∀ b:Addr,b∉(wR CX P w K mg base N qual scope f cd A outer s H E).ex:=λ b z=>absurd (show b∈([]:List Addr) from z) (by simp)
 refine ⟨⟨e0.mod,S.kind,rfl,rfl,C8 _,λ y z c h1 h2=>?_,λ y hy=>?_,λ y c _ h=>?_,λ _=>hd,Around.frames_deeper e0.frames,.inr ⟨rfl,rfl⟩,λ b z=>absurd z (noA b),e0.bs,e0.bsz,λ b _ _=>noA b,λ b z=>absurd z (noA b),e0.funs,e0.frf⟩,
  rfl,e0.bare,Un.kept hk,⟨_,x.toInCall.ns,λ i y v h1 h2 h3=>?_⟩,λ y c h=>⟨_,x.cell y c h⟩,e0.hok.fresh (C8 _),λ y c h=>?_,λ p hp=>absurd (show p∈([]:List (Addr×Obj)) from hp) (by simp),e0.hok.kept hk,?_⟩
 ·exact name_of_addr x.apart (Fq h1) (Fq h2)
 ·have hy:scope.names.lookup y=some .cell\/scope.names.lookup y=some .free:=hy
  rcases hy with hy | hy
  ·exact nN hy
  ·exact absurd rfl (S.nofree _ (Fq hy))
 ·exact EN (x.above y c (Fq h))
 ·have hi:i<vs.length:=by
   unfold start at h2
   by_cases hi:i<vs.length
   ·exact hi
   ·rw [Dy (by simpa using hi)] at h2
    rw [GK] at h2
    split at h2<;>cases h2
  have ha:vs[i]? = some v:=by
   unfold start at h2
   rw [Do (by simpa using hi),De] at h2
   cases e:vs[i]? with
   | none=>rw [e] at h2; cases h2
   | some a=>rw [e] at h2; cases h2; rfl
  obtain ⟨u,hu,rv⟩:=r.get ha
  have hp:ps[i]? = some y:=by
   rw [<-S.pre,D6 (by lia)]; exact h1
  have ndP:ps.Nodup:=by rw [<-S.pre]; exact S.nd.sublist (FC _ _)
  refine ⟨u,rv,?_⟩
  rcases S.par y (Ek hp) with k | k
  ·exact .inl ⟨k,lT ndP hp hu k⟩
  ·obtain ⟨c,e⟩:=nN (n:=s.heap.objs.size+1) k
   refine .inr ⟨.inl k,c,e,?_⟩
   have q:=x.cell y c e
   rw [lU ndP hp hu (by show scope.names.lookup y≠_; rw [k]; decide)] at q
   exact q
 ·exact e0.hok.fresh (EN (x.above y c (Fq h)))
 ·unfold start
  show _=N.length
  rw [Dg,C6,Ja]
  lia
theorem Be {CX:CXT} {P:Program} {w:World} {K:C7} {mg:Str->Option Value} {base:Heap} {k:Nat} {f:Addr} {name qual:Str} {params:Arguments} {body:List Stmt} {scope:Scope} {dV kV doc pm cdv ct oc:Value} {an od:Option Addr}
  {osl:Array (Option Value)} {N ps:List Str} {sp:Sp} (lk:K.lookup f=some ⟨oc,od,.func (Gu name qual params body scope dV kV doc pm an cdv ct),osl⟩) (hcd:Hg K cdv qual=true) (S:FnScope N ps scope)
  (len:∀ vs H Q E,sp vs H Q E->vs.length=ps.length)
  (hbody:∀ (A:Around) (outer:List Env) (s:Shared) (H:Hp) (vs:List V) (Q:VK) (E:XK),Room k (A.deeper (envOfC qual scope s.heap.objs.size f cdv))->sp vs H Q E->
   ∃ t,PSs (wR CX P w K mg base N qual scope f cdv A outer s H E) body t/\t { nx:=λ _ H'=>Q .non H',rt:=Q } (start N vs) H) :
  FnOk P w K mg base CX (k+1) f (Gu name qual params body scope dV kV doc pm an cdv ct) ps sp:=by
 refine ⟨len,λ A outer s H args us vs Q E hr e0 hb r hsp=>?_⟩
 have hl:=len _ _ _ _ hsp
 have KX:K.In s.heap:=e0.mod.kin.keeps λ b o e=>(e0.bs b o e).1
 have lim:s.heap.NoLimit:=e0.mod.nolimit.keeps λ b o e=>(e0.bs b o e).1
 have hkind:∀ y∈ps.zip us,scope.names.lookup y.1=some .local\/(scope.names.lookup y.1=some .cell/\((cellsFrom (s.heap.objs.size+1) scope.names []).lookup y.1).isSome=true):=λ⟨n,v⟩ hy=>by
  rcases S.par n (IR hy).1 with q | q
  ·exact .inl q
  ·exact .inr ⟨q,IV _ _ _ (.inl q)⟩
 refine codeAny_call_function hr.depth (KX _ _ lk) rfl S.co S.gen rfl (PySem.W.codeRec_of KX hcd) (hb _ _ _ _ ?_)
 refine wpAny_newFunctionEnv_cells S.kind hkind λ env he s1 x=>?_
 subst he
 refine ⟨lim.keeps x.toInCall.keep,codeAny_func ?_⟩
 obtain ⟨t,ht,hq⟩:=hbody A outer s H vs Q E (hr.deeper _) hsp
 have I:Inv (wR CX P w K mg base N qual scope f cdv A outer s H E) [] (start N vs) H s1:=qo S hr.hd e0 hl r x
 refine wpAny_mono (ht [] s1 (start N vs) H _ I hq) (λ fl s' hs=>?_) λ e s' hs=>hs
 have fin:∀ {σ':St} {H':Hp} {v:V} {u:Value},Inv (wR CX P w K mg base N qual scope f cdv A outer s H E) [] σ' H' s'->RelV v u->Q v H'->CE outer P w H s Q u s':=
  λ {σ' H' v u} J rv q=>⟨v,H',J.os,J.bare,J.base,J.hok,rv,q⟩
 cases fl with
 | ret u=>
  obtain ⟨v,σ',H',J,rv,q⟩:=hs
  exact fin J rv q
 | next=>
  obtain ⟨σ',H',J,q⟩:=hs
  exact fin (v:=V.non) (u:=D8) J rfl q
 | brk=>
  obtain ⟨_,_,_,q⟩:=hs
  exact Fa q
 | cont=>
  obtain ⟨_,_,_,q⟩:=hs
  exact Fa q
section
variable {X:Cx} {x:Str} {p pos:Pos} {e:Expr} {es:List Expr} {t:TA} {id T:String} {r:List V->Hp->VK->Prop}
def tCB (r:List V->Hp->VK->Prop) (t:TA):TE:=λ σ H Q=>t σ H λ vs H1=>r vs H1 Q
theorem ui (hc:dh X (.builtin id) r) (hg:Gl X x) (hm:X.mg x=none) (hv:bootBuiltins x=some (.builtin id)) (ha:PA X (e::es) t) (hn:x≠"__name__":=by decide) (hdb:(x == ("__debug__" : Str))=false:=by decide)
  (he:starEach (e::es) X.env=(false,eval e X.env)::starEach es X.env:=by rfl) (hpl:(backTo pos (starEach es X.env)).any (·.1)=false:=by rfl):PE X (.Call (.Name x p) (e::es) [] pos) (tCB r t):=by
 intro pins s σ H Q I h
 refine wpAny_Call_Name_kw (eJ I hg hm hv ?_ hn hdb)
 exact Ku (thn (ha pos pins s σ H _ I h) λ us s1 ⟨vs,H1,I1,r1,q1⟩=>hc pins s1 σ H1 vs us Q I1 r1 q1) he hpl
theorem qq (hc:dh X (.type T) r) (hg:Gl X x) (hm:X.mg x=none) (hv:bootBuiltins x=some (.type T)) (ha:PA X (e::es) t) (hn:x≠"__name__":=by decide) (hdb:(x == ("__debug__" : Str))=false:=by decide)
  (he:starEach (e::es) X.env=(false,eval e X.env)::starEach es X.env:=by rfl) (hpl:(backTo pos (starEach es X.env)).any (·.1)=false:=by rfl):PE X (.Call (.Name x p) (e::es) [] pos) (tCB r t):=by
 intro pins s σ H Q I h
 refine wpAny_Call_Name_kw (eJ I hg hm hv ?_ hn hdb)
 exact Et (thn (ha pos pins s σ H _ I h) λ us s1 ⟨vs,H1,I1,r1,q1⟩=>hc pins s1 σ H1 vs us Q I1 r1 q1) he hpl
end
end L2
open L2.SqL renaming of→MQ
open L2.SqT renaming of→MR
open L2.V renaming int→MS,str→MT,ref→MU,non→MV,ty→M0
open PySem PySem.Spec PyProof.Rows L2
variable {Q:Value->Shared->Prop} {n j t' c k i tk b f m l B ep:Nat} {vl vu u:Value} {sl a q pa ma wl:Addr} {items:Array Value} {us its:List Value} {xs ys vs:List V} {σ:L2.St} {pins:List (Addr×Obj)} {h:Heap} {x qual:Str} {P:Program} {X:Cx} {pos pos':Pos} {H1:Hp} {o:HO} {v y:V} {fp ch qs rs:List Addr} {g:TG} {wi:TI} {elt iter tg:Expr} {to ta:TE} {t:TA} {tb:TS} {scope:Scope} {tc:TT} {row r:List Nat}
namespace HT
open PySem PyProof.Rows
noncomputable def cC:List Int->List Int->Bool
 | [],[]=>false
 | [],_::_=>true
 | _::_,[]=>false
 | x::xs,y::ys=>if x=y then cC xs ys else decide (x<y)
theorem dz (x y:Int) (xs ys:List Int):cC (x::xs) (y::ys)=if x=y then cC xs ys else decide (x<y):=rfl
theorem kG:cC [] []=false:=rfl
theorem jU (y:Int) (ys:List Int):cC [] (y::ys)=true:=rfl
theorem jV (x:Int) (xs:List Int):cC (x::xs) []=false:=rfl
theorem uj (A:Around) (s:Shared) (a:Int) (t:Tok) (c:Int) (u:Tok):∃ e,SeqAt.EqAt A s (.int a t) (.int c u) e/\(e=true↔a=c):=
 ⟨(a == c),Mq a t c u,by simp⟩
theorem uk (A:Around) (s:Shared) (a:Int) (t:Tok) (c:Int) (u:Tok) (prog:Program) (w:World) (E:Value->Shared->Prop) (Q:Value->Shared->Prop) (h:Q (.bool (decide (a<c))) s) :
  wpAny (model prog w) A (richCompare .Lt (.int a t) (.int c u)) Q E s:=
 (Mi h:wpAny (model prog w) A (compareOp .Lt (.int a t) (.int c u)) Q E s)
section
open PySem.SeqAt
open PySem.AutoSeq1 (wpAny_loadPart')
open PySem.MeetsSeq PySem.MeetsSeq2 PySem.MeetsSeq3
theorem kH (l b:Addr) (items items2:Array Value) (n n2:Nat) (dd dd2:Option Addr) (sl sl2:Array (Option Value)) (ns ms:List Int) (hi:IntsAre items.toList ns) (hj:IntsAre items2.toList ms) :
  Meets (Builtin.«tuple.__lt__» ⟨[.ref l,.ref b],[]⟩)
   (λ _ R s=>s.heap.get? l=some { cls:=.type "tuple",dict:=dd,data:=.seq items n,slots:=sl }/\s.heap.get? b=some { cls:=.type "tuple",dict:=dd2,data:=.seq items2 n2,slots:=sl2 }/\
    R (.ok (.ret (.bool (cC ns ms)))) s):=
 .of_wp λ prog w A R s h=>by
  obtain ⟨hp,g,d,tk,os⟩:=s; obtain ⟨hl,hb,h⟩:=h
  have f2:=Iy
  have z1:items.size=ns.length:=by rw [<-hi.length]; simp
  have z2:items2.size=ms.length:=by rw [<-hj.length]; simp
  wp_walk using wpAny_loadPart' hl,wpAny_loadPart' hb,wpAny_forIn_list _ (λ rest b s'=>b.1=none/\s'=⟨hp,g,d,tk,os⟩/\∃ (vs ws:List Value) (ns' ms':List Int),rest=vs.zip ws/\
   IntsAre vs ns'/\IntsAre ws ms'/\ns'.length+items2.size=ms'.length+items.size/\R (.ok (.ret (.bool (cC ns' ms')))) ⟨hp,g,d,tk,os⟩) _
  case turn=>
   rintro ⟨y,x⟩ rest b s' ⟨hb',rfl,vs,ws,ns',ms',hz,hvi,hwi,hlen,hR⟩
   cases hvi with
   | nil=>rw [JU] at hz; cases hz
   | cons a t hvi'=>
    cases hwi with
    | nil=>rw [JH] at hz; cases hz
    | cons c u hwi'=>
     rw [Hr] at hz
     injection hz with hyx hrest
     injection hyx with hy hx
     subst hy hx
     rw [dz] at hR
     simp only [DD] at hlen
     obtain ⟨e,he,hiff⟩:=uj A.in1 ⟨hp,g,d,tk,os⟩ a t c u
     refine wpAny_bind (he prog w _ _ ?_)
     cases e with
     | true=>
      rw [if_pos (hiff.mp rfl)] at hR
      wp_walk
      exact ⟨rfl,rfl,_,_,_,_,hrest,hvi',hwi',by lia,hR⟩
     | false=>
      rw [if_neg (λ q=>absurd (hiff.mpr q) Dt)] at hR
      have hri:=uk A.in1 ⟨hp,g,d,tk,os⟩ a t c u prog w
      wp_walk using hri
      exact ⟨_,rfl,by simpa using hR⟩
  case fin=>
   rintro ⟨b1,b2⟩ s' ⟨hb',rfl,vs,ws,ns',ms',hz,hvi,hwi,hlen,hR⟩
   simp only at hb'
   subst hb'
   have hv:cC ns' ms'=decide (items.size<items2.size):=by
    cases hvi with
    | nil=>
     cases hwi with
     | nil=>
      simp only [E6] at hlen
      rw [kG]
      exact (decide_eq_false (by lia)).symm
     | cons c u hw=>
      simp only [E6,DD] at hlen
      rw [jU]
      exact (decide_eq_true (by lia)).symm
    | cons a t hv=>
     cases hwi with
     | nil=>
      simp only [E6,DD] at hlen
      rw [jV]
      exact (decide_eq_false (by lia)).symm
     | cons c u hw=>
      rw [Hr] at hz
      cases hz
   rw [hv] at hR
   wp_walk
   exact ⟨_,rfl,by simpa [Kt] using hR⟩
  case h=>
   exact ⟨rfl,rfl,items.toList,items2.toList,ns,ms,rfl,hi,hj,by lia,h⟩
end
section
variable {prog:Program} {w:World} {A:Around} {E:Value->Shared->Prop} {s:Shared}
theorem wS {t b:Addr} {vs ws:List Value} (ht:IsTup s.heap t vs.toArray) (hb:IsTup s.heap b ws.toArray) (hv:vs≠[])
  (h1:ws=[]->Q (.ref t) s) (h2:ws≠[]->Q (.ref s.heap.objs.size) { s with heap:=s.heap.push { cls:=.type "tuple",data:=.seq (vs++ws).toArray } })
  (hsz:vs.length+ws.length<=sizeLine):wpAny (model prog w) A (binaryOp .Add (.ref t) (.ref b)) Q E s:=by
 obtain ⟨⟨cls,dd,data,sl⟩,ho,hc,n,hd⟩:=id ht
 obtain ⟨⟨cls2,dd2,data2,sl2⟩,ho2,hc2,n2,hd2⟩:=id hb
 simp only at hc hd hc2 hd2
 subst hc hd hc2 hd2
 have e:vs.toArray++ws.toArray=(vs++ws).toArray:=by simp
 by_cases hw:ws=[]
 ·exact concat_meets ⟨_,ho,rfl⟩ ⟨_,ho2,rfl⟩ noFill_tuple_add seq_tuple_add GO GL (GF _ _)
   (tuple_addW1 t b vs.toArray ws.toArray n n2 dd dd2 sl sl2 (by simpa using hv) (by simp [hw])) ⟨ho,ho2,h1 hw⟩
 ·refine concat_meets ⟨_,ho,rfl⟩ ⟨_,ho2,rfl⟩ noFill_tuple_add seq_tuple_add GO GL (GF _ _)
   (tuple_addW2 t b vs.toArray ws.toArray n n2 dd dd2 sl sl2 (by simpa using hv) (by simpa using hw) (by rw [Dm,Dm]; exact hsz)) ⟨ho,ho2,?_⟩
  rw [e]
  exact h2 hw
noncomputable def sIx (n d:Nat):Option Int->Nat
 | none=>d
 | some v=>if v<0 then (v+(n:Int)).toNat else min v.toNat n
theorem nO (n d:Nat):sIx n d none=d:=rfl
theorem eT (n d k:Nat):sIx n d (some (k:Int))=min k n:=by
 show (if (k:Int)<0 then ((k:Int)+(n:Int)).toNat else min (k:Int).toNat n)=min k n
 rw [if_neg (by lia),Eb]
theorem zh (n d:Nat) (hd:d<=n) (o:Option Int):sIx n d o<=n:=by
 cases o with
 | none=>exact hd
 | some v=>
  show (if v<0 then (v+(n:Int)).toNat else min v.toNat n)<=n
  by_cases hv:v<0
  ·rw [if_pos hv]; lia
  ·rw [if_neg hv]; exact Nat.min_le_right _ _
theorem qr (v:Int) (n d:Nat):(if v<0 then max (v+(n:Int)) 0 else min v (n:Int))=((sIx n d (some v):Nat):Int):=by
 show (if v<0 then max (v+(n:Int)) 0 else min v (n:Int))=(((if v<0 then (v+(n:Int)).toNat else min v.toNat n):Nat):Int)
 by_cases hv:v<0
 ·simp only [if_pos hv]; lia
 ·simp only [if_neg hv]; lia
theorem oW (lo hi:Option Int) (n:Nat):GC lo hi 1 (n:Int)=(((sIx n 0 lo:Nat):Int),((sIx n n hi:Nat):Int)):=by
 have h1:¬ ((1:Int)<0):=by lia
 unfold GC
 simp only [h1,if_false]
 refine Prod.ext ?_ ?_
 ·cases lo with
  | none=>rfl
  | some v=>exact qr v n 0
 ·cases hi with
  | none=>rfl
  | some v=>exact qr v n n
theorem oX (i j:Nat):FK (i:Int) (j:Int) 1=j - i:=by
 unfold FK
 have h1:(1:Int) > 0:=by lia
 simp only [h1,if_true,LH]
 split<;>lia
theorem ke {v:Value} {o:Option Int} {Q:Option Int->Shared->Prop} (p:IsPart v o) (h:Q o s):wpAny (model prog w) A (KJ v) Q E s:=by
 cases p with
 | none=>exact slicePart_none h
 | int i t=>exact slicePart_int h
theorem eA {lo hi:Option Int} {Q:Int×Int×Nat->Shared->Prop} (hs:s.heap.IsSliceOf sl vl vu .none) (pl:IsPart vl lo) (pu:IsPart vu hi)
  (h:Q (((sIx n 0 lo:Nat):Int),1,sIx n n hi - sIx n 0 lo) s):wpAny (model prog w) A (HQ (.ref sl) (pure (n:Int))) Q E s:=by
 obtain ⟨os,hos,hcs,hds⟩:=id hs
 unfold HQ Ln
 refine wpAny_bind (wpAny_bind (wpAny_field hos hds (x:=vl) rfl (wpAny_bind (wpAny_field hos hds (x:=vu) rfl (wpAny_bind (wpAny_field hos hds (x:=.none) rfl (wpAny_pure ?_)))))))
 refine wpAny_bind (slicePart_none ?_)
 show wpAny _ _ (if ((1:Int) == 0)=true then _ else _) _ _ s
 rw [if_neg (by decide)]
 refine wpAny_bind (ke pl (wpAny_bind (ke pu (wpAny_bind (wpAny_pure ?_)))))
 show wpAny _ _ (match GC lo hi 1 (n:Int) with | (lo,hi)=>pure (lo,(1:Int),FK lo hi 1)) _ _ s
 rw [oW lo hi n]
 show wpAny _ _ (pure (((sIx n 0 lo:Nat):Int),(1:Int),FK ((sIx n 0 lo:Nat):Int) ((sIx n n hi:Nat):Int) 1)) _ _ s
 rw [oX]
 exact wpAny_pure h
theorem ul (xs:Array Value) (i k:Nat):((C9 k).filterMap λ (m:Nat)=>xs[((i:Int)+(m:Int)*1).toNat]?).toArray=((xs.toList.drop i).take k).toArray:=by
 have e:(λ (m:Nat)=>xs[((i:Int)+(m:Int)*1).toNat]?)=λ m=>xs[i+m]?:=by
  funext m
  have:((i:Int)+(m:Int)*1).toNat=i+m:=by lia
  rw [this]
 rw [e]
 have:=pick_run xs i k
 rw [Hs] at this
 have e2:((λ x=>xs[x]?)∘λ x=>i+x)=λ m=>xs[i+m]?:=rfl
 rw [e2] at this
 rw [this]
theorem g6 {t:Addr} {lo hi:Option Int} (ht:IsTup s.heap t items) (hs:s.heap.IsSliceOf sl vl vu .none) (pl:IsPart vl lo) (pu:IsPart vu hi)
  (hw:¬ (sIx items.size 0 lo=0/\sIx items.size items.size hi=items.size))
  (h:Q (.ref s.heap.objs.size) { s with heap:=s.heap.push { cls:=.type "tuple",data:=.seq ((items.toList.drop (sIx items.size 0 lo)).take (sIx items.size items.size hi - sIx items.size 0 lo)).toArray } })
  (hsz:items.size<=sizeLine):wpAny (model prog w) A (getItem (.ref t) (.ref sl)) Q E s:=by
 have htake:sizeOk (.seq ((items.toList.drop (sIx items.size 0 lo)).take (sIx items.size items.size hi - sIx items.size 0 lo)).toArray):=by
  show ((items.toList.drop (sIx items.size 0 lo)).take (sIx items.size items.size hi - sIx items.size 0 lo)).toArray.size<=sizeLine
  rw [Dm,Df,DU,DT]
  lia
 have hj:sIx items.size items.size hi<=items.size:=zh _ _ (C8 _) hi
 obtain ⟨os,hos,hcs,hds⟩:=id hs
 have hTs:s.TypeIs (.ref sl) "slice":=⟨os,hos,hcs⟩
 unfold getItem
 try with_reducible refine wpAny_holding ?_
 first | refine wpAny_bind (wpAny_pure ?_) | skip
 refine wpAny_bind (wpAny_sequenceKey ht.typeIs (by decide) ?_)
 refine wpAny_bind (wpAny_callSpecial?_slot (name:=EV "__getitem__") ht.typeIs ED
  (wpAny_call_entry ED ht.typeIs entry_tuple_getitem ?_ (args_tuple_getitem _ _)))
 show wpAny _ _ (HR (.ref t) >>= _) _ _ s
 refine wpAny_bind (tupleItemsOf_ ht ?_)
 refine wpAny_bind (wpAny_typeOf hTs ?_)
 rw [if_pos (by decide)]
 refine wpAny_bind (eA hs pl pu ?_)
 have hno:¬ ((((sIx items.size 0 lo:Nat):Int) == 0 && (1:Int) == 1 && (sIx items.size items.size hi - sIx items.size 0 lo) == items.size)=true):=by
  intro q
  rw [Ey,Ey] at q
  have q1:((sIx items.size 0 lo:Nat):Int)=0:=eq_of_beq q.1.1
  have q2:sIx items.size items.size hi - sIx items.size 0 lo=items.size:=eq_of_beq q.2
  exact hw ⟨by lia,by lia⟩
 show wpAny _ _ (if (((sIx items.size 0 lo:Nat):Int) == 0 && (1:Int) == 1 && (sIx items.size items.size hi - sIx items.size 0 lo) == items.size)=true then _ else _) _ _ s
 rw [if_neg hno,ul]
 first
  | exact wpAny_bind (m:=FQ _) (wpAny_newObj_type (wpAny_pure ⟨_,rfl,wpAny_pure h⟩) htake)
  | exact wpAny_bind (m:=FQ _) (wpAny_newObj_type (wpAny_bind (wpAny_pure (wpAny_pure ⟨_,rfl,wpAny_pure h⟩))) htake)
  | exact wpAny_bind (wpAny_bind (m:=FQ _) (wpAny_newObj_type (wpAny_pure (wpAny_pure ⟨_,rfl,wpAny_pure h⟩)) htake))
  | exact wpAny_bind (wpAny_bind (m:=FQ _) (wpAny_newObj_type (wpAny_pure ⟨_,rfl,wpAny_pure h⟩) htake))
end
end HT
namespace L2
open PySem PySem.Spec PyProof.Rows
noncomputable abbrev TO:=St->Hp->(Option Int->Hp->Prop)->Prop
def PO (X:Cx) (e:Option Expr) (t:TO):Prop:=
 ∀ (pins:List (Addr×Obj)) (s:Shared) (σ:St) (H:Hp) (Q:Option Int->Hp->Prop),Inv X pins σ H s->t σ H Q->
  wpAny (model X.prog X.w) X.A (evalPart e X.env) (λ u s'=>∃ o H',Inv X pins σ H' s'/\IsPart u o/\Q o H') X.xe s
noncomputable def mS:TO:=λ _ H Q=>Q none H
noncomputable def wT (t:TE):TO:=λ σ H Q=>t σ H λ x H1=>∃ i,x=.int i/\Q (some i) H1
theorem kf {ns:List Int}:∀ {us:List Value},Vals (ns.map MS) us->IntsAre us ns:=by
 induction ns with
 | nil=>intro us r; rw [LI] at r; cases r; exact .nil
 | cons n ns ih=>
  intro us r
  rw [Er] at r
  cases r with
  | cons r1 r2=>
   obtain ⟨t,e⟩:=r1
   subst e
   exact .cons n t (ih r2)
section
variable {X:Cx} {e:Expr} {te:TE} {lo hi:Option Expr} {tl th:TO} {pos p2:Pos}
theorem wU:PO X none mS:=by
 intro pins s σ H Q I h
 rw [evalPart_none]
 exact wpAny_pure ⟨none,H,I,.none,h⟩
theorem wV (h:PE X e te):PO X (some e) (wT te):=by
 intro pins s σ H Q I hw
 rw [evalPart_some]
 refine thn (h pins s σ H _ I hw) λ u s1 ⟨x,H1,I1,r1,q1⟩=>?_
 obtain ⟨i,rfl,q⟩:=q1
 obtain ⟨t,rfl⟩:=r1
 exact ⟨some i,H1,I1,.int i t,q⟩
def SlR (X:Cx) (r:V->Option Int->Option Int->Hp->VK->Prop):Prop:=
 ∀ (pins:List (Addr×Obj)) (s:Shared) (σ:St) (H:Hp) (x:V) (v vl vu:Value) (lo hi:Option Int) (sl:Addr) (Q:VK),Inv X pins σ H s->RelV x v->s.heap.IsSliceOf sl vl vu .none->IsPart vl lo->IsPart vu hi->r x lo hi H Q->
  ∃ T id,typeLookup (.type T) "__getitem__" = pure (some (.builtin id))/\s.TypeIs v T/\wpAny (model X.prog X.w) X.A (getItem v (.ref sl)) (EP X pins σ Q) X.xe s
def tSl (r:V->Option Int->Option Int->Hp->VK->Prop) (te:TE) (tl th:TO):TE:=λ σ H Q=>te σ H λ x H1=>tl σ H1 λ l H2=>th σ H2 λ u H3=>r x l u H3 Q
theorem um {r:V->Option Int->Option Int->Hp->VK->Prop} (hr:SlR X r) (he:PE X e te) (hl:PO X lo tl) (hu:PO X hi th):PE X (.Subscript e (.Slice lo hi none p2) pos) (tSl r te tl th):=by
 intro pins s σ H Q I h
 refine Subscript_ (thn (he pins s σ H _ I h) λ v s1 ⟨x,H1,I1,r1,q1⟩=>?_)
 refine wpAny_Slice (thn (hl pins s1 σ H1 _ I1 q1) λ vl s2 ⟨l,H2,I2,pl,q2⟩=>thn (hu pins s2 σ H2 _ I2 q2) λ vu s3 ⟨u,H3,I3,pu,q3⟩=>?_)
 rw [evalPart_none]
 refine wpAny_pure ?_
 have I4:Inv X pins σ H3 { s3 with heap:=s3.heap.push { cls:=.type "slice",data:=.fields #[vl,vu,.none] } }:=I3.kept (t':=s3.toks) λ b ob q=>Dd _ q
 obtain ⟨T,id,hT,ht,hg⟩:=hr pins { s3 with heap:=s3.heap.push { cls:=.type "slice",data:=.fields #[vl,vu,.none] } } σ H3 x v vl vu l u s3.heap.objs.size Q I4 r1 (Ht ..) pl pu q3
 show wpAny (model X.prog X.w) X.A (subscriptTail e (.Slice lo hi none p2) v (.ref s3.heap.objs.size)) (EP X pins σ Q) X.xe { s3 with heap:=s3.heap.push { cls:=.type "slice",data:=.fields #[vl,vu,.none] } }
 exact tail_any (ops:=[.ref s3.heap.objs.size,v]) ht hT hg (by with_unfolding_all rfl)
noncomputable def kI (xs:List V) (lo hi:Option Int):List V:=(xs.drop (HT.sIx xs.length 0 lo)).take (HT.sIx xs.length xs.length hi - HT.sIx xs.length 0 lo)
theorem jf (xs:List V) (lo hi:Option Int):(kI xs lo hi).length<=xs.length:=by
 unfold kI
 rw [Df,DU]
 lia
def CA (K:C7):V->Option Int->Option Int->Hp->VK->Prop:=λ x lo hi H Q=>∃ a xs,x=.ref a/\SqT K H a xs/\
 ¬ (HT.sIx xs.length 0 lo=0/\HT.sIx xs.length xs.length hi=xs.length)/\∀ p,H p=none->Q (.ref p) (upd H p (.tup (kI xs lo hi)))
theorem zi:SlR X (CA X.K):=by
 intro pins s σ H x v vl vu lo hi sl Q I rx hs pl pu h
 obtain ⟨a,xs,rfl,hx,hw,q⟩:=h
 cases rx
 obtain ⟨its,r,ht,hz⟩:=I.tuple hx
 have hlen:its.toArray.size=xs.length:=by rw [Dm]; exact r.length.symm
 refine ⟨"tuple",_,ED.lookup,ht.typeIs,?_⟩
 refine HT.g6 ht hs pl pu (by rw [hlen]; exact hw) ?_ (by rw [hlen]; exact hz)
 rw [hlen]
 refine ⟨.ref s.heap.objs.size,_,I.laid (t':=s.toks) (o:=.tup (kI xs lo hi)) (λ b ob q=>Dd _ q) (C8 _) ?_,rfl,q _ (I.hok.fresh (C8 _))⟩
 exact ⟨D9 (jf xs lo hi) hz,_,(r.drop (HT.sIx xs.length 0 lo)).take (HT.sIx xs.length xs.length hi - HT.sIx xs.length 0 lo),KT _ _⟩
def Bf (K:C7):R2:=λ x y H Q=>∃ a b xs ys,x=.ref a/\y=.ref b/\SqT K H a xs/\SqT K H b ys/\xs≠[]/\xs.length+ys.length<=sizeLine/\
 (ys=[]->Q (.ref a) H)/\(ys≠[]->∀ p,H p=none->Q (.ref p) (upd H p (.tup (xs++ys))))
theorem Vals.nil_iff (r:Vals xs us):us=[]↔xs=[]:=by
 cases r with
 | nil=>simp
 | cons _ _=>simp
theorem wW:OpR X (binaryOp .Add) (Bf X.K):=by
 intro pins s σ H x y v u Q I rx ry h
 obtain ⟨a,b,xs,ys,rfl,rfl,ha,hb,hx,hz,q1,q2⟩:=h
 cases rx
 cases ry
 obtain ⟨its,r1,p1,_⟩:=I.tuple ha
 obtain ⟨its2,r2,p2,_⟩:=I.tuple hb
 refine HT.wS p1 p2 (λ z=>hx (r1.nil_iff.mp z)) (λ z=>⟨.ref a,H,I,rfl,q1 (r2.nil_iff.mp z)⟩) (λ z=>?_) (by rw [<-r1.length,<-r2.length]; exact hz)
 refine ⟨.ref s.heap.objs.size,_,I.laid (t':=s.toks) (o:=.tup (xs++ys)) (λ b ob q=>Dd _ q) (C8 _) ?_,rfl,q2 (λ w=>z (r2.nil_iff.mpr w)) _ (I.hok.fresh (C8 _))⟩
 exact ⟨by rw [Dg]; exact hz,_,r1.append r2,KT _ _⟩
end
noncomputable def ixN (n:Nat) (i:Int):Option Nat:=if 0<=i then (if i<n then some i.toNat else none) else if -(n:Int)<=i then some (i+n).toNat else none
noncomputable def atI {α:Type} (xs:List α) (i:Int):Option α:=(ixN xs.length i).bind λ j=>xs[j]?
theorem qu {i:Int} (h:ixN n i=some j):seqIndex? i n=some j/\j<n/\-(n:Int)<=i/\i<n:=by
 unfold ixN at h
 by_cases h0:0<=i
 ·rw [if_pos h0] at h
  by_cases h1:i<n
  ·rw [if_pos h1] at h
   have e:i.toNat=j:=D7 h
   exact ⟨by rw [seqIndex_of h0 h1,e],by lia,by lia,h1⟩
  ·rw [if_neg h1] at h; cases h
 ·rw [if_neg h0] at h
  by_cases h1:-(n:Int)<=i
  ·rw [if_pos h1] at h
   have e:(i+n).toNat=j:=D7 h
   exact ⟨by rw [seqIndex_neg (by lia) h1,e],by lia,h1,by lia⟩
  ·rw [if_neg h1] at h; cases h
theorem mT {α:Type} {xs:List α} {i:Int} {v:α} (h:atI xs i=some v):∃ j,seqIndex? i xs.length=some j/\xs[j]? = some v/\j<xs.length/\-(xs.length:Int)<=i/\i<xs.length:=by
 unfold atI at h
 cases e:ixN xs.length i with
 | none=>rw [e] at h; cases h
 | some j=>
  rw [e] at h
  obtain ⟨h1,h2,h3,h4⟩:=qu e
  exact ⟨j,h1,h,h2,h3,h4⟩
theorem aO {α:Type} {xs:List α} {v:α} (h:xs[j]? = some v):atI xs (j:Int)=some v:=by
 have hj:j<xs.length:=(DQ.mp h).1
 have e:ixN xs.length (j:Int)=some j:=by
  unfold ixN
  rw [if_pos (by lia),if_pos (by lia)]; simp
 unfold atI; rw [e]; exact h
def qw (b:Expr):Prop:=∀ o i,subscripted b false o i=operate [o,i] (getItem o i)
def IxR (X:Cx) (r:R2):Prop:=
 ∀ (value slice:Expr) (pins:List (Addr×Obj)) (s:Shared) (σ:St) (H:Hp) (x y:V) (v u:Value) (Q:VK),Inv X pins σ H s->RelV x v->RelV y u->r x y H Q->
  subscripted slice false v u=operate [v,u] (getItem v u)->wpAny (model X.prog X.w) X.A (subscriptTail value slice v u) (EP X pins σ Q) X.xe s
def MtR (X:Cx) (id:String) (r:V->List V->Hp->VK->Prop):Prop:=
 ∀ (pins:List (Addr×Obj)) (s:Shared) (σ:St) (H:Hp) (x:V) (xs:List V) (v:Value) (us:List Value) (Q:VK),Inv X pins σ H s->RelV x v->Vals xs us->r x xs H Q->
  wpAny (model X.prog X.w) X.A (call (.builtin id) (v::us)) (EP X pins σ Q) X.xe s
section
variable {X:Cx} {a b:Expr} {ta tb:TE} {pos:Pos}
theorem IxR.or {r r':R2} (h:IxR X r) (h':IxR X r'):IxR X (λ x y H Q=>r x y H Q\/r' x y H Q):=by
 intro value slice pins s σ H x y v u Q I rx ry q hs
 rcases q with q | q
 ·exact h value slice pins s σ H x y v u Q I rx ry q hs
 ·exact h' value slice pins s σ H x y v u Q I rx ry q hs
theorem Bg {r:R2} (hr:IxR X r) (ha:PE X a ta) (hb:PE X b tb) (hs:qw b):PE X (.Subscript a b pos) (tOp r ta tb):=by
 intro pins s σ H Q I h
 exact Subscript_ (A1 ha hb I h λ v u s2 x y H2 I2 rx ry q=>hr a b pins s2 σ H2 x y v u Q I2 rx ry q (hs _ _))
def zj (K:C7):R2:=λ x y H Q=>∃ p xs i v,x=.ref p/\y=.int i/\SqL K H p xs/\atI xs i=some v/\Q v H
def zk (K:C7):R2:=λ x y H Q=>∃ p xs i v,x=.ref p/\y=.int i/\SqT K H p xs/\atI xs i=some v/\Q v H
def BZ:R2:=λ x y H Q=>∃ z i c,x=.str z/\y=.int i/\z.length<=sizeLine/\atI z.cps.toList i=some c/\Q (.str ⟨#[c]⟩) H
theorem ix_list:IxR X (zj X.K):=by
 intro value slice pins s σ H x y v u Q I rx ry h hs
 obtain ⟨p,xs,i,z,rfl,rfl,hq,he,q⟩:=h
 cases rx
 obtain ⟨t,rfl⟩:=ry
 obtain ⟨its,r,pl,hz⟩:=I.list hq
 obtain ⟨j,h1,h2,h3,h4,h5⟩:=mT he
 obtain ⟨w,ew,rw'⟩:=r.get h2
 have hl:=r.length
 have hn:=jb
 have fin:EP X pins σ Q w s:=⟨z,H,I,rw',q⟩
 by_cases h0:0<=i
 ·have hj:i.toNat=j:=by
   rw [seqIndex_of h0 h5] at h1
   exact D7 h1
  exact item_listR pl.isList h0 (by lia) (by rw [hj]; simpa using ew) fin hs
 ·have hj:(i+(its.toArray.size:Int)).toNat=j:=by
   rw [seqIndex_neg (by lia) h4] at h1
   rw [Dm,<-hl]
   exact D7 h1
  exact subscriptTail_builtinR (x:=w) pl.isList.typeIs slot_list_getitem.lookup
   (wpAny_getItem_list_neg (Q:=λ r s'=>r=w/\EP X pins σ Q r s') pl.isList (by lia) (by rw [Dm]<;>lia) (by lia) (by rw [hj]; simpa using ew) ⟨rfl,fin⟩) hs
theorem ix_tup:IxR X (zk X.K):=by
 intro value slice pins s σ H x y v u Q I rx ry h hs
 obtain ⟨p,xs,i,z,rfl,rfl,hq,he,q⟩:=h
 cases rx
 obtain ⟨t,rfl⟩:=ry
 obtain ⟨its,r,pl,hz⟩:=I.tuple hq
 obtain ⟨j,h1,h2,h3,h4,h5⟩:=mT he
 obtain ⟨w,ew,rw'⟩:=r.get h2
 have hl:=r.length
 have hn:=jb
 have fin:EP X pins σ Q w s:=⟨z,H,I,rw',q⟩
 exact subscriptTail_builtinR (x:=w) pl.typeIs slot_tuple_getitem.lookup
  (getItem_tuple (j:=j) (Q:=λ r s'=>r=w/\EP X pins σ Q r s') pl (by lia) (by lia) (by rw [Dm,<-hl]; exact h1) (by simpa using ew) ⟨rfl,fin⟩) hs
theorem zl:IxR X BZ:=by
 intro value slice pins s σ H x y v u Q I rx ry h hs
 obtain ⟨z,i,c,rfl,rfl,hz,he,q⟩:=h
 obtain ⟨t,rfl⟩:=rx
 obtain ⟨t',rfl⟩:=ry
 obtain ⟨j,h1,h2,h3,h4,h5⟩:=mT he
 have hl:z.cps.toList.length=z.length:=by simp [Str.length]
 rw [hl] at h1 h4 h5
 have hn:=jb
 exact tail_any (typeIs_str s z t) slot_str_getitem.lookup (getItem_str (c:=c) (by
  have e1:decide (i < -(2 ^ 63:Int))=false:=decide_eq_false (by lia)
  have e2:decide (i>=2 ^ 63)=false:=decide_eq_false (by lia)
  rw [e1,e2,KZ]) (by rw [h1]; simpa using h2) ⟨.str ⟨#[c]⟩,H,I.tok _,⟨_,rfl⟩,q⟩) hs
def rIx (K:C7):R2:=λ x y H Q=>zj K x y H Q\/zk K x y H Q\/BZ x y H Q
theorem zm:IxR X (rIx X.K):=ix_list.or (ix_tup.or zl)
theorem oY (its:List Value) (n j:Nat) (u:Value):Eu (·.setIfInBounds j u) { cls:=.type "list",data:=.seq its.toArray n }={ cls:=.type "list",data:=.seq (its.set j u).toArray n }:=by
 simp [Eu]
theorem Inv.lst {pins:List (Addr×Obj)} {σ:St} {H:Hp} {s:Shared} {p:Addr} {xs:List V} (I:Inv X pins σ H s) (h:H p=some (.lst xs)) :
  ∃ (its:List Value) (n:Nat),Vals xs its/\s.heap.get? p=some { cls:=.type "list",data:=.seq its.toArray n }/\xs.length<=sizeLine:=by
 obtain ⟨z,its,n,r,e⟩:=I.hok p _ h
 exact ⟨its,n,r,e,z⟩
theorem Inv.lstUpd {H:Hp} {s:Shared} {p:Addr} {its':List Value} {n':Nat} {f:Obj->Obj} (I:Inv X pins σ H s) (h:H p=some (.lst xs))
  (ho:s.heap.get? p=some { cls:=.type "list",data:=.seq its.toArray n }) (hf:f { cls:=.type "list",data:=.seq its.toArray n }={ cls:=.type "list",data:=.seq its'.toArray n' }) (r:Vals ys its') (hz:ys.length<=sizeLine) (t:Nat) :
  Inv X pins σ (upd H p (.lst ys)) { s with heap:=s.heap.update p f,toks:=t }:=by
 have e:(s.heap.update p f).get? p=some { cls:=.type "list",data:=.seq its'.toArray n' }:=by
  rw [Gv f ho (by rw [hf]<;>rfl),hf]
 refine I.write (x:=p) (e:=p) (by rw [h]; trivial) (.inl rfl) (λ b u hb q=>(Gi _ _ (DX hb)).trans q) ⟨_,e⟩ ?_
 exact ⟨hz,its',n',r,e⟩
def qx:V->V->V->Hp->(Hp->Prop)->Prop:=λ o i v H Q=>∃ p xs k j,o=.ref p/\i=.int k/\H p=some (.lst xs)/\ixN xs.length k=some j/\Q (upd H p (.lst (xs.set j v)))
theorem nP:AW X qx:=by
 intro pins s σ H o i v ov iv u Q I ro ri rv h
 obtain ⟨p,xs,k,j,rfl,rfl,hp,hj,q⟩:=h
 cases ro
 obtain ⟨t,rfl⟩:=ri
 obtain ⟨its,n,r,ho,hz⟩:=I.lst hp
 obtain ⟨h1,h2,h3,h4⟩:=qu hj
 have hl:=r.length
 have hn:=jb
 have I':Inv X pins σ (upd H p (.lst (xs.set j v))) { s with heap:=s.heap.update p (Eu (·.setIfInBounds j u)) }:=
  I.lstUpd hp ho (oY its n j u) (r.set rv j) (by rw [Ew]; exact hz) s.toks
 by_cases h0:0<=k
 ·have hk:k.toNat=j:=by
   rw [seqIndex_of h0 h4] at h1
   exact D7 h1
  exact PySem.W.ki_setAt ho h0 (by lia) (by rw [Dm,<-hl]; exact h4) (by rw [hk]; exact ⟨_,I',q⟩)
 ·have hk:(k+(its.toArray.size:Int)).toNat=j:=by
   rw [seqIndex_neg (by lia) h3] at h1
   rw [Dm,<-hl]
   exact D7 h1
  exact PySem.W.ki_setBack ho (by lia) (by rw [Dm,<-hl]; exact h3) (by lia) (by rw [hk]; exact ⟨_,I',q⟩)
theorem lV (lo hi:Option Int) (n:Nat):(sliceBounds lo hi none n).1=((HT.sIx n 0 lo:Nat):Int)/\(sliceBounds lo hi none n).2.1=((HT.sIx n n hi:Nat):Int)/\(sliceBounds lo hi none n).2.2=1:=by
 refine ⟨?_,?_,rfl⟩
 ·cases lo with
  | none=>simp [sliceBounds,HT.sIx]
  | some i=>
   simp only [sliceBounds,HT.sIx,Iz,show (1:Int) > 0 by decide,if_true]
   by_cases h:i<0
   ·simp only [h,if_true]<;>lia
   ·simp only [h,if_false]<;>lia
 ·cases hi with
  | none=>simp [sliceBounds,HT.sIx]
  | some i=>
   simp only [sliceBounds,HT.sIx,Iz,show (1:Int) > 0 by decide,if_true]
   by_cases h:i<0
   ·simp only [h,if_true]<;>lia
   ·simp only [h,if_false]<;>lia
theorem kJ (its:List Value) (lo hi:Option Int):slicePick its.toArray lo hi none=((its.drop (HT.sIx its.length 0 lo)).take (HT.sIx its.length its.length hi - HT.sIx its.length 0 lo)).toArray:=by
 obtain ⟨h1,h2,h3⟩:=lV lo hi its.toArray.size
 unfold slicePick
 rw [h1,h2,h3]
 simp only [sliceRange_one,pick_run,Dm]<;>rfl
def B0 (K:C7):V->Option Int->Option Int->Hp->VK->Prop:=λ x lo hi H Q=>∃ a xs,x=.ref a/\SqL K H a xs/\∀ p,H p=none->Q (.ref p) (upd H p (.lst (kI xs lo hi)))
theorem wX:SlR X (B0 X.K):=by
 intro pins s σ H x v vl vu lo hi sl Q I rx hs pl pu h
 obtain ⟨a,xs,rfl,hx,q⟩:=h
 cases rx
 obtain ⟨its,r,ht,hz⟩:=I.list hx
 have hlen:=r.length
 refine ⟨"list",_,slot_list_getitem.lookup,ht.isList.typeIs,?_⟩
 refine wpAny_getItem_list_slice ht.isList hs pl pu .none (by simp) ?_ (by rw [Dm]<;>lia)
 rw [kJ,<-hlen]
 refine ⟨.ref s.heap.objs.size,_,I.laid (t':=s.toks) (o:=.lst (kI xs lo hi)) (λ b ob q=>Dd _ q) (C8 _) ?_,rfl,q _ (I.hok.fresh (C8 _))⟩
 exact ⟨D9 (jf xs lo hi) hz,_,0,(r.drop (HT.sIx xs.length 0 lo)).take (HT.sIx xs.length xs.length hi - HT.sIx xs.length 0 lo),DB _ rfl⟩
theorem lW:dh X (.builtin "len") (λ xs H Q=>∃ p ys,xs=[.ref p]/\(SqL X.K H p ys\/SqT X.K H p ys)/\Q (.int ys.length) H):=by
 intro pins s σ H xs us Q I r h
 obtain ⟨p,ys,rfl,hq,q⟩:=h
 obtain ⟨u,rfl,rx⟩:=kE r
 cases rx
 have hn:=jb
 rcases hq with hq | hq
 ·obtain ⟨its,r',pl,hz⟩:=I.list hq
  have hlen:=r'.length
  exact Calls.call_len_list pl.isList (by simp only [Dm]<;>lia) ⟨.int ys.length,H,I.tok _,⟨s.toks+1,by rw [Dm,hlen]⟩,q⟩
 ·obtain ⟨its,r',pl,hz⟩:=I.tuple hq
  have hlen:=r'.length
  exact len_tuple pl (by simp only [Dm]<;>lia) ⟨.int ys.length,H,I.tok _,⟨s.toks+1,by rw [Dm,hlen]⟩,q⟩
theorem lX:dh X (.type "list") (λ xs H Q=>∃ p ys,xs=[.ref p]/\(SqL X.K H p ys\/SqT X.K H p ys)/\∀ l,H l=none->Q (.ref l) (upd H l (.lst ys))):=by
 intro pins s σ H xs us Q I r h
 obtain ⟨p,ys,rfl,hq,q⟩:=h
 obtain ⟨u,rfl,rx⟩:=kE r
 cases rx
 have fin:∀ (its:List Value),Vals ys its->ys.length<=sizeLine->∀ (h':Heap) (c':Nat),(∀ b o',s.heap.get? b=some o'->h'.get? b=some o')->
   h'.get? s.heap.objs.size=some { cls:=.type "list",dict:=none,data:=.seq its.toArray c',slots:=#[] }->EP X pins σ Q (.ref s.heap.objs.size) { s with heap:=h' }:=λ its r' hz h' c' kp e=>
  ⟨.ref s.heap.objs.size,_,I.laid (t':=s.toks) kp (C8 _) (show ObjOk X.prog X.w _ h' _ (.lst ys) from ⟨hz,its,c',r',e⟩),rfl,q _ (I.hok.fresh (C8 _))⟩
 rcases hq with hq | hq
 ·obtain ⟨its,r',pl,hz⟩:=I.list hq
  have hlen:=r'.length
  obtain ⟨o,ho,hc,n,hd⟩:=pl.isList
  exact call_list_seq p (.inl rfl) ho hc hd (λ h' c' kp e=>fin its r' hz h' c' kp e) (by simp only [Dm]<;>lia)
 ·obtain ⟨its,r',pl,hz⟩:=I.tuple hq
  have hlen:=r'.length
  obtain ⟨o,ho,hc,n,hd⟩:=pl
  exact call_list_seq p (.inr rfl) ho hc hd (λ h' c' kp e=>fin its r' hz h' c' kp e) (by simp only [Dm]<;>lia)
theorem kK:dh X (.type "tuple") (λ xs H Q=>∃ p ys,xs=[.ref p]/\((SqL X.K H p ys/\∀ l,H l=none->Q (.ref l) (upd H l (.tup ys)))\/(SqT X.K H p ys/\Q (.ref p) H))):=by
 intro pins s σ H xs us Q I r h
 obtain ⟨p,ys,rfl,h⟩:=h
 obtain ⟨u,rfl,rx⟩:=kE r
 cases rx
 rcases h with ⟨hq,q⟩ | ⟨hq,q⟩
 ·obtain ⟨its,r',pl,hz⟩:=I.list hq
  have hlen:=r'.length
  refine call_tuple_list pl.isList (λ h' kp=>?_) (by simp only [Dm]<;>lia)
  have I1:Inv X pins σ H { s with heap:=h' }:=I.kept (t':=s.toks) kp
  have I2:Inv X pins σ (upd H h'.objs.size (.tup ys)) { s with heap:=h'.push { cls:=.type "tuple",data:=.seq its.toArray } }:=
   I1.laid (t':=s.toks) (λ b o e=>Dd _ e) (C8 _) (show ObjOk X.prog X.w _ _ _ (.tup ys) from ⟨hz,its,r',KT _ _⟩)
  exact ⟨.ref h'.objs.size,_,I2,rfl,q _ (I1.hok.fresh (C8 _))⟩
 ·obtain ⟨its,r',pl,hz⟩:=I.tuple hq
  exact call_tuple_same pl ⟨.ref p,H,I,rfl,q⟩
def tyV (K:C7) (T:String) (x:V) (H:Hp):Prop:=match x with
 | .str _=>T = "str"
 | .int _=>T = "int"
 | .ref p=>(T = "list"/\∃ xs,SqL K H p xs)\/(T = "tuple"/\∃ o,K.lookup p=some o/\o.cls=.type "tuple"/\o.dict=none)\/
   (T = "dict"/\((∃ kvs,H p=some (.dK kvs))\/∃ kvs,H p=some (.dT kvs)))\/(T = "set"/\∃ S n,H p=some (.set S n))
 | _=>False
theorem vp {H:Hp} {s:Shared} {T:String} {x:V} {v:Value} (I:Inv X pins σ H s) (r:RelV x v) (ty:tyV X.K T x H) :
  s.TypeIs v T/\∀ a,v=.ref a->∃ ob,s.heap.get? a=some ob/\ob.dict=none:=by
 cases x with
 | str z=>
  obtain ⟨t,rfl⟩:=r
  cases (show T = "str" from ty)
  exact ⟨typeIs_str s z t,λ _ e=>nomatch e⟩
 | int i=>
  obtain ⟨t,rfl⟩:=r
  cases (show T = "int" from ty)
  exact ⟨typeIs_int s i t,λ _ e=>nomatch e⟩
 | ref p=>
  cases r
  rcases ty with ⟨rfl,xs,hq⟩ | ⟨rfl,o,hk,hc,hd⟩ | ⟨rfl,hk⟩ | ⟨rfl,S,n,hk⟩
  ·obtain ⟨its,_,pl,_⟩:=I.list hq
   refine ⟨pl.isList.typeIs,λ a e=>?_⟩
   cases e
   obtain ⟨o,n,e,c,hd,_⟩:=pl
   exact ⟨o,e,hd⟩
  ·refine ⟨⟨o,I.kIn p o hk,hc⟩,λ a e=>?_⟩
   cases e
   exact ⟨o,I.kIn _ o hk,hd⟩
  ·have z:∃ o,s.heap.get? p=some o/\o.ExactDict:=by
    rcases hk with ⟨kvs,hk⟩ | ⟨kvs,hk⟩
    ·obtain ⟨_,_,_,_,o,_,_,e,ex,_⟩:=I.hok p _ hk
     exact ⟨o,e,ex⟩
    ·obtain ⟨_,_,_,_,o,_,_,e,ex,_⟩:=I.hok p _ hk
     exact ⟨o,e,ex⟩
   obtain ⟨o,e,ex⟩:=z
   refine ⟨⟨o,e,ex.1⟩,λ a e2=>?_⟩
   cases e2
   exact ⟨o,e,ex.2.1⟩
  ·obtain ⟨o,_,_,_,e,ex,_⟩:=I.hok p _ hk
   refine ⟨⟨o,e,ex.1⟩,λ a e2=>?_⟩
   cases e2
   exact ⟨o,e,ex.2.1⟩
 | _=>exact Fa ty
def Bh (K:C7) (T:String) (r:V->List V->Hp->VK->Prop) (to:TE):TE:=λ σ H Q=>to σ H λ x H1=>tyV K T x H1/\r x [] H1 Q
def tBM (K:C7) (T:String) (r:V->List V->Hp->VK->Prop) (to:TE) (t:TA):TE:=λ σ H Q=>to σ H λ x H1=>tyV K T x H1/\t σ H1 λ xs H2=>r x xs H2 Q
variable {o e:Expr} {es:List Expr} {to:TE} {t:TA} {name:Str} {apos cpos:Pos} {T id:String} {r:V->List V->Hp->VK->Prop}
theorem zn (pa:PlainAttrs T) (slot:Slot T name id) (hty:typeOf (.builtin id)=pure (.type "method_descriptor")) (hm:MtR X id r) (ho:PE X o to)
  (hbase:attributeBase o name X.env (eval o X.env)=eval o X.env:=by rfl) (hline:(apos.endLine == cpos.line)=true:=by rfl):PE X (.Call (.Attribute o name apos) [] [] cpos) (Bh X.K T r to):=by
 intro pins s σ H Q I h
 refine wpAny_Call_method0_late hbase hline (thn (ho pins s σ H _ I h) λ v s1 ⟨x,H1,I1,r1,ty,q1⟩=>?_)
 obtain ⟨h1,h2⟩:=vp I1 r1 ty
 exact ⟨T,id,pa,slot,hty,h1,h2,GP rfl (PySem.evalArgs_none (hm pins s1 σ H1 x [] v [] Q I1 r1 .nil q1))⟩
theorem Bi (pa:PlainAttrs T) (slot:Slot T name id) (hty:typeOf (.builtin id)=pure (.type "method_descriptor")) (hm:MtR X id r) (ho:PE X o to) (ha:PA X (e::es) t)
  (hbase:attributeBase o name X.env (eval o X.env)=eval o X.env:=by rfl)
  (hfew:((backTo cpos (starEach (e::es) X.env)).all (λ x=>!x.1) && (backToKw cpos (keywordEach [] X.env)).all (λ x=>x.1.isSome)
   && decide ((e::es).length+([]:List Keyword).length+(if ([]:List Keyword).isEmpty then 0 else 1)<30))=true:=by rfl)
  (hline:(apos.endLine == cpos.line)=true:=by rfl) (hs:starEach (e::es) X.env=(false,eval e X.env)::starEach es X.env:=by rfl) (hplain:(backTo cpos (starEach es X.env)).any (·.1)=false:=by rfl) :
  PE X (.Call (.Attribute o name apos) (e::es) [] cpos) (tBM X.K T r to t):=by
 intro pins s σ H Q I h
 refine wpAny_Call_method_late hbase hfew hline rfl (thn (ho pins s σ H _ I h) λ v s1 ⟨x,H1,I1,r1,ty,q1⟩=>?_)
 obtain ⟨h1,h2⟩:=vp I1 r1 ty
 refine ⟨T,id,pa,slot,hty,h1,h2,?_⟩
 have hA:=ha cpos pins s1 σ H1 _ I1 q1
 rw [hs] at hA ⊢
 refine GP (by show (false || (backTo cpos (starEach es X.env)).any (·.1))=false; rw [hplain]<;>rfl) (Jn ?_)
 exact thn hA λ us s2 ⟨vs,H2,I2,r2,q2⟩=>hm pins s2 σ H2 x vs v us Q I2 r1 r2 q2
end
def MtM (X:Cx) (id:String) (r:V->List V->Hp->VK->Prop):Prop:=
 ∀ (pins:List (Addr×Obj)) (s:Shared) (σ:St) (H:Hp) (x:V) (xs:List V) (v:Value) (us:List Value) (Q:VK),Inv X pins σ H s->RelV x v->Vals xs us->r x xs H Q->
  wpAny (model X.prog X.w) X.A (call (.builtin id) (v::us)) (EP X pins σ Q) X.xe s
theorem Vals.one:∀ {x:V} {us:List Value},Vals [x] us->∃ u,us=[u]/\RelV x u
 | _,_,.cons r .nil=>⟨_,rfl,r⟩
theorem Vals.zero:∀ {us:List Value},Vals [] us->us=[]
 | _,.nil=>rfl
theorem Vals.dropLast {xs:List V} {us:List Value} (h:Vals xs us):Vals xs.dropLast us.dropLast:=by
 induction h with
 | nil=>exact .nil
 | cons r t ih=>
  cases t with
  | nil=>exact .nil
  | cons q t'=>exact .cons r ih
theorem Vals.reverse {xs:List V} {us:List Value} (h:Vals xs us):Vals xs.reverse us.reverse:=by
 induction h with
 | nil=>exact .nil
 | cons r t ih=>rw [JV,JV]; exact Vals.append ih (.cons r .nil)
theorem Vals.rep {xs:List V} {us:List Value} (h:Vals xs us):∀ k:Nat,Vals (DC k xs).flatten (DC k us).flatten
 | 0=>.nil
 | k+1=>by
  rw [FV,FV,EX,EX]
  exact Vals.append h (Vals.rep h k)
theorem oZ {α:Type} (l:List α):l.eraseIdx (l.length - 1)=l.dropLast:=by
 induction l with
 | nil=>rfl
 | cons a r ih=>
  cases r with
  | nil=>rfl
  | cons b r=>
   have e:(a::b::r).length - 1=((b::r).length - 1)+1:=by
    have h1:(a::b::r).length=r.length+2:=rfl
    have h2:(b::r).length=r.length+1:=rfl
    lia
   rw [e,List.eraseIdx_cons_succ,ih]
   all_goals rfl
theorem lY (its:List Value):∀ (k:Nat) (acc:List Value),
  Kv (λ x1 x2=>x1++x2) acc.toArray (DC k its.toArray)=(acc++(DC k its).flatten).toArray
 | 0,acc=>by simp
 | k+1,acc=>by
  have e:acc.toArray++its.toArray=(acc++its).toArray:=by simp
  have e2:(acc++its)++(DC k its).flatten=acc++(DC (k+1) its).flatten:=by
   rw [FV,EX,DH]
  rw [<-e2,<-lY its k (acc++its),<-e,FV,Kw]
section
variable {X:Cx} {pins:List (Addr×Obj)} {σ:St} {H:Hp} {s:Shared} {l b:Addr} {xs ys zs:List V}
theorem Inv.lset {its':List Value} {f:Array Value->Array Value} (I:Inv X pins σ H s) (hH:H l=some (.lst xs))
  (e:s.heap.get? l=some { cls:=.type "list",data:=.seq its.toArray n }) (hf:f its.toArray=its'.toArray) (hv:Vals ys its') (hz:ys.length<=sizeLine) :
  Inv X pins σ (upd H l (.lst ys)) { s with heap:=s.heap.update l (Eu f),toks:=t' }:=by
 have q:=MG e f
 rw [hf] at q
 refine I.write (x:=l) (e:=l) (by rw [hH]; exact trivial) (.inl rfl) (λ b' u hb hu=>(Gi s.heap (Eu f) (DX hb)).trans hu) ⟨_,q⟩ ?_
 exact ⟨hz,its',_,hv,q⟩
theorem Inv.lnew (I:Inv X pins σ H s) (hv:Vals ys its) (hz:ys.length<=sizeLine) :
  Inv X pins σ (upd H s.heap.objs.size (.lst ys)) { s with heap:=s.heap.push { cls:=.type "list",data:=.seq its.toArray },toks:=t' }:=
 I.laid (λ _ _ q=>Dd _ q) (C8 _) ⟨hz,its,0,hv,DB _ rfl⟩
theorem Inv.fresh (I:Inv X pins σ H s):H s.heap.objs.size=none:=I.hok.fresh (C8 _)
theorem Inv.lstM (I:Inv X pins σ H s) (hH:H l=some (.lst xs)):xs.length<=sizeLine/\∃ (its:List Value) (n:Nat),Vals xs its/\xs.length=its.length/\s.heap.get? l=some { cls:=.type "list",data:=.seq its.toArray n }:=by
 obtain ⟨z,its,n,r,e⟩:=I.hok l _ hH
 exact ⟨z,its,n,r,r.length,e⟩
theorem gj (h:n<=sizeLine):E1 n=false:=by
 unfold E1
 exact decide_eq_false (by lia)
end
section
variable {X:Cx}
def mU:V->List V->Hp->VK->Prop:=λ x vs H Q=>∃ l xs y,x=.ref l/\vs=[y]/\H l=some (.lst xs)/\xs.length<sizeLine/\Q .non (upd H l (.lst (xs++[y])))
theorem qy:MtM X "list.append" mU:=by
 intro pins s σ H x vs v us Q I rx rv h
 obtain ⟨l,xs,y,rfl,rfl,hH,hz,q⟩:=h
 cases rx
 obtain ⟨u,rfl,ru⟩:=rv.one
 obtain ⟨z,its,n,r,hl,e⟩:=I.lstM hH
 refine call_meets F.slot_list_append ⟨_,e,rfl⟩ F.entry_list_append (F.args_list_append_2 _ _) (PySem.list_append l its.toArray n u (by rw [Dm]; lia)) ⟨e,?_⟩
 refine ⟨.non,_,I.lset (its':=its++[u]) hH e (by simp) (r.append (.cons ru .nil)) ?_,rfl,q⟩
 rw [Dg,Gw]
 lia
def mV:V->List V->Hp->VK->Prop:=λ x vs H Q=>∃ l b xs zs,x=.ref l/\vs=[.ref b]/\H l=some (.lst xs)/\H b=some (.lst zs)/\xs.length+zs.length<=sizeLine/\Q .non (upd H l (.lst (xs++zs)))
theorem qz:MtM X "list.extend" mV:=by
 intro pins s σ H x vs v us Q I rx rv h
 obtain ⟨l,b,xs,zs,rfl,rfl,hH,hB,hz,q⟩:=h
 cases rx
 obtain ⟨u,rfl,ru⟩:=rv.one
 cases ru
 obtain ⟨z,its,n,r,hl,e⟩:=I.lstM hH
 obtain ⟨z2,its2,n2,r2,hl2,e2⟩:=I.lstM hB
 have hsz:its.toArray.size+its2.toArray.size<=sizeLine:=by rw [Dm,Dm]; lia
 have hlong:¬ (!its.toArray.isEmpty && E1 (its.toArray.size+its2.toArray.size))=true:=by
  rw [gj hsz,Jb]
  exact Dt
 refine call_meets JI ⟨_,e,rfl⟩ Jw (Jo _ _)
  (Kj l its.toArray n b its2.toArray n2 hlong (by rw [Dm]; lia) (by lia)) ⟨e,e2,?_⟩
 refine ⟨.non,_,I.lset (its':=its++its2) hH e (by simp) (r.append r2) ?_,rfl,q⟩
 rw [Dg]
 lia
def Bj:V->List V->Hp->VK->Prop:=λ x vs H Q=>∃ l xs y,x=.ref l/\vs=[]/\H l=some (.lst xs)/\xs[xs.length - 1]? = some y/\Q y (upd H l (.lst xs.dropLast))
theorem zo:MtM X "list.pop" Bj:=by
 intro pins s σ H x vs v us Q I rx rv h
 obtain ⟨l,xs,y,rfl,rfl,hH,hy,q⟩:=h
 cases rx
 have hus:=rv.zero
 subst hus
 obtain ⟨z,its,n,r,hl,e⟩:=I.lstM hH
 obtain ⟨u,hu,ru⟩:=r.get hy
 have hy':its.toArray[its.toArray.size - 1]? = some u:=by
  show its.toArray[its.length - 1]? = some u
  rw [<-EO,<-hl]
  exact hu
 refine call_meets F.slot_list_pop ⟨_,e,rfl⟩ F.entry_list_pop (F.args_list_pop_1 _) (L8 l its.toArray n u hy' (by rw [Dm]; lia)) ⟨e,?_⟩
 refine ⟨y,_,I.lset (its':=its.dropLast) hH e ?_ r.dropLast ?_,ru,q⟩
 ·show its.toArray.eraseIdxIfInBounds (its.toArray.size - 1)=its.dropLast.toArray
  rw [Dm,List.eraseIdxIfInBounds_toArray,oZ]
 ·rw [List.length_dropLast]
  lia
def B2:R2:=λ x y H Q=>∃ l b xs zs,x=.ref l/\y=.ref b/\H l=some (.lst xs)/\H b=some (.lst zs)/\xs.length+zs.length<=sizeLine/\∀ p,H p=none->Q (.ref p) (upd H p (.lst (xs++zs)))
theorem zp:OpR X (binaryOp .Add) B2:=by
 intro pins s σ H x y v u Q I rx ry h
 obtain ⟨l,b,xs,zs,rfl,rfl,hH,hB,hz,q⟩:=h
 cases rx
 cases ry
 obtain ⟨z,its,n,r,hl,e⟩:=I.lstM hH
 obtain ⟨z2,its2,n2,r2,hl2,e2⟩:=I.lstM hB
 refine PySem.P.add_list e e2 ?_ (by rw [Dm,Dm]; lia)
 have ea:its.toArray++its2.toArray=(its++its2).toArray:=by simp
 rw [ea]
 exact ⟨.ref _,_,I.lnew (t':=s.toks) (r.append r2) (by rw [Dg]; lia),rfl,q _ I.fresh⟩
def B3:R2:=λ x y H Q=>∃ l k xs,x=.ref l/\y=.int k/\H l=some (.lst xs)/\-(2 ^ 63)<=k/\k<2 ^ 63/\xs.length*k.toNat<=sizeLine/\
 ∀ p,H p=none->Q (.ref p) (upd H p (.lst (DC k.toNat xs).flatten))
theorem wY {α:Type} (xs:List α) (k:Nat):(DC k xs).flatten.length=k*xs.length:=by
 induction k with
 | zero=>simp
 | succ k ih=>rw [FV,EX,Dg,ih,IA,IB]
theorem zq:OpR X (binaryOp .Mult) B3:=by
 intro pins s σ H x y v u Q I rx ry h
 obtain ⟨l,k,xs,rfl,rfl,hH,h1,h2,hz,q⟩:=h
 cases rx
 obtain ⟨t,rfl⟩:=ry
 obtain ⟨z,its,n,r,hl,e⟩:=I.lstM hH
 have hlen:its.toArray.size*k.toNat<=sizeLine:=by rw [Dm,<-hl]; exact hz
 have hcap:¬ its.toArray.size*k.toNat > (2 ^ 63 - 1) / 8:=by
  have:(sizeLine:Nat)<=(2 ^ 63 - 1) / 8:=by decide
  lia
 have hfit:¬ (!Builtin.List.listFitsIndex k)=true:=by
  rw [fitsIndex_both h1 h2]
  exact Dt
 have hlong:¬ E1 (its.toArray.size*k.toNat)=true:=by
  rw [gj hlen]
  exact Dt
 have hnew:Kv (λ x1 x2=>x1++x2) #[] (DC (if its.toArray.isEmpty=true then 0 else k.toNat) its.toArray)=(DC k.toNat its).flatten.toArray:=by
  have f0:∀ m:Nat,Kv (λ x1 x2=>x1++x2) #[] (DC m its.toArray)=(DC m its).flatten.toArray:=λ m=>by
   have:=lY its m []
   rw [Ge] at this
   exact this
  rw [f0]
  cases its with
  | nil=>simp
  | cons a r'=>rw [if_neg (by simp)]
 refine wpAny_binaryOp_repeat_ref (T:="list") (U:="int") (by decide) ⟨_,e,rfl⟩ (λ s'=>typeIs_int s' k t) noFill_list_mul F.fills_int_mul Kx repeat_list F.slot_int_index.lookup
  (call_meets Kx (typeIs_int s k t) F.entry_int_rmul (F.args_int_rmul_2 _ _) (int___rmul___int_list k t l its.toArray n)
   ⟨e,rfl,⟨_,e,rfl⟩,call_meets F.slot_list_mul ⟨_,e,rfl⟩ F.entry_list_mul (F.args_list_mul_2 _ _) (Ke l its.toArray n k t hfit hcap hlong) ⟨e,?_⟩⟩)
 rw [hnew]
 exact ⟨.ref _,_,I.lnew (t':=s.toks) (r.rep k.toNat) (by rw [wY,LJ]; exact hz),rfl,q _ I.fresh⟩
end
section
variable {prog:Program} {w:World} {A:Around} {E:Value->Shared->Prop} {s:Shared}
theorem qA (its its2:List Value) (a c:Nat):its.toArray.extract 0 a++its2.toArray++its.toArray.extract c its.toArray.size=(its.take a++its2++its.drop c).toArray:=by
  apply E2.mp
  first
    | (simp
       exact Da (by simp))
    | simp [Da]
    | simp
theorem o0 {a:Nat} (hac:a<=c) (hc:c<=n):sliceBounds (some (a:Int)) (some (c:Int)) none n=((a:Int),(c:Int),1):=by
 simp only [sliceBounds,Iz]
 have h1:¬ ((a:Int)<0):=by lia
 have h2:¬ ((c:Int)<0):=by lia
 simp only [h1,h2,if_false,show (1:Int) > 0 by decide,if_true]
 congr 1
 ·lia
 ·congr 1; lia
set_option maxRecDepth 100000 in
theorem kL {l b:Addr} {new:Array Value} {n2:Nat} {a:Nat} {Q:Unit->Shared->Prop}
    (e:s.heap.get? l=some { cls:=.type "list",data:=.seq items n }) (e2:s.heap.get? b=some { cls:=.type "list",data:=.seq new n2 }) (hne:l≠b)
    (hs:s.heap.IsSliceOf sl vl vu .none) (pl:IsPart vl (some (a:Int))) (pu:IsPart vu (some (c:Int))) (hac:a<=c) (hc:c<=items.size)
    (hsz:items.size+new.size<=sizeLine) (h:Q () { s with heap:=s.heap.update l (Eu λ xs=>xs.extract 0 a++new++xs.extract c xs.size) }) :
    wpAny (model prog w) A (setItem (.ref l) (.ref sl) (.ref b)) Q E s:=by
  have hl:s.heap.IsList l items:=Kk e
  have hb:s.heap.IsList b new:=Kk e2
  obtain ⟨os,hos,hcs,hds⟩:=id hs
  have hTs:s.TypeIs (.ref sl) "slice":=⟨os,hos,hcs⟩
  have hstep:¬ ((rawPart none == rawInt 0)=true):=Dt
  have hsame:FR (.ref l) (.ref b)=false:=by
    unfold FR
    exact beq_eq_false_iff_ne.mpr hne
  have hmax:(max (a:Int) (c:Int)).toNat=c:=by lia
  have hz':((λ xs:Array Value=>xs.extract 0 a++new++xs.extract c xs.size) items).size<=sizeLine+1:=by
    simp only [Array.size_append,Array.size_extract]
    lia
  unfold setItem
  try with_reducible refine wpAny_holding ?_
  first | refine wpAny_bind (wpAny_pure ?_) | skip
  refine wpAny_bind (wpAny_sequenceKey hl.typeIs (by decide) ?_)
  refine wpAny_bind (wpAny_callSpecial?_slot (name:=EV "__setitem__") hl.typeIs slot_list_setitem
    (wpAny_call_entry slot_list_setitem hl.typeIs entry_list_setitem ?_ (args_list_setitem _ _ _)))
  show wpAny _ _ (Hu (.ref sl) >>= _) _ _ s
  refine wpAny_bind ?_
  unfold Hu
  refine wpAny_bind (wpAny_specialOf hTs slice_no_index ?_)
  simp only [Option.isNone_none,if_true]
  refine wpAny_pure ?_
  show wpAny _ _ (typeOf (.ref sl) >>= _) _ _ s
  refine wpAny_bind (wpAny_typeOf hTs ?_)
  first
    | rw [if_neg (by decide)]
    | refine Hv (by decide) ?_
  rw [listSliceParts_eq]
  refine wpAny_bind (wpAny_bind (wpAny_field hos hds (x:=.none) rfl (wpAny_bind (wpAny_listPart .none ?_))))
  rw [if_neg hstep]
  refine wpAny_bind (wpAny_field hos hds (x:=vl) rfl (wpAny_bind (wpAny_listPart pl ?_)))
  refine wpAny_bind (wpAny_field hos hds (x:=vu) rfl (wpAny_bind (wpAny_listPart pu (wpAny_pure ?_))))
  first
    | simp only [hsame,Dh,if_false]
    | refine Hv hsame ?_
    | (dsimp only
       rw [if_neg (by rw [hsame]; exact Dt)])
  refine wpAny_bind (m:=Ip (.ref b) "must assign iterable to extended slice") ?_
  unfold Ip
  refine wpAny_bind (wpAny_typeOf hb.typeIs ?_)
  first
    | refine Mz (by decide) ?_
    | rw [if_pos (by decide)]
    | simp only [beq_self_eq_true,LL,if_true]
  unfold L9
  refine wpAny_bind (wpAny_seqItems e2 rfl (wpAny_pure ?_))
  refine wpAny_bind (wpAny_bind (wpAny_seqItems e rfl (wpAny_pure ?_)))
  refine wpAny_bind (wpAny_of_eq ((sliceIndices_raw (some (a:Int)) (some (c:Int)) none items.size (by simp)).trans (congrArg (pure:Int×Int×Int->Sem (Int×Int×Int)) (o0 hac hc))) ?_)
  show wpAny _ _ (if ((1:Int) == 1)=true then _ else _) _ _ s
  rw [if_pos (by decide)]
  refine wpAny_bind (wpAny_rule ?_)
  first
    | simp only [gj hsz,Dh,if_false]
    | refine Hv (gj hsz) ?_
  first | refine wpAny_bind (wpAny_pure ?_) | skip
  show wpAny _ _ (updateSeq l (λ xs=>xs.extract 0 ((a:Int)).toNat++new++xs.extract (max (a:Int) (c:Int)).toNat xs.size) >>= _) _ _ s
  rw [hmax,Eb]
  refine wpAny_bind (wpAny_updateSeq (hz:=D9 (Gy _ _) hsz) (_hz':=hz') e rfl ?_)
  refine wpAny_bind (wpAny_letGo ?_)
  first
    | exact wpAny_bind (wpAny_pure (wpAny_pure ⟨.none,rfl,wpAny_pure h⟩))
    | exact wpAny_pure ⟨.none,rfl,wpAny_pure h⟩
end
section
variable {X:Cx}
theorem qB {s:Shared} {H:Hp} {l b:Addr} {a c:Int} {Q:Unit->Shared->Prop} (I:Inv X pins σ H s)
  (hH:H l=some (.lst xs)) (hB:H b=some (.lst ys)) (hne:l≠b) (hs:s.heap.IsSliceOf sl vl vu .none) (ra:RelV (.int a) vl) (rc:RelV (.int c) vu) (h0:0<=a) (hac:a<=c) (hc:c<=xs.length)
  (hz:xs.length+ys.length<=sizeLine) (h:∀ s',Inv X pins σ (upd H l (.lst (xs.take a.toNat++ys++xs.drop c.toNat))) s'->Q () s') :
  wpAny (model X.prog X.w) X.A (setItem (.ref l) (.ref sl) (.ref b)) Q X.xe s:=by
 obtain ⟨ta,rfl⟩:=ra
 obtain ⟨tc,rfl⟩:=rc
 obtain ⟨z,its,n,r,hl,e⟩:=I.lstM hH
 obtain ⟨z2,its2,n2,r2,hl2,e2⟩:=I.lstM hB
 obtain ⟨a',rfl⟩:=IJ h0
 obtain ⟨c',rfl⟩:=IJ (Int.le_trans h0 hac)
 simp only [Eb] at h
 refine kL (a:=a') (c:=c') e e2 hne hs (.int _ _) (.int _ _) (by lia) (by rw [Dm]; lia) (by rw [Dm,Dm]; lia) (h _ ?_)
 refine I.lset (its':=its.take a'++its2++its.drop c') (t':=s.toks) hH e ?_ (Vals.append (Vals.append (r.take _) r2) (r.drop _)) ?_
 ·exact qA its its2 a' c'
 ·rw [Dg,Dg,Df,DU]
  lia
end
end L2
namespace Att
open PySem PySem.W PySem.Calls PyProof.Rows
theorem jg {P:Params} :∀ (ns:List Int) (vs:List Value),WellAll P h vs (ns.map WData.int)->IntsAre vs ns:=by
 intro ns
 induction ns with
 | nil=>
  intro vs w
  rw [LI] at w
  cases w
  exact .nil
 | cons n ns ih=>
  intro vs w
  rw [Er] at w
  cases w with
  | cons a b=>
   cases a
   exact .cons _ _ (ih _ b)
theorem qC {l:OpenLaw} (hn:l.most=some n) {P:Params} {args:List WData} {vals:List Value}
  (hpre:l.row.toRowW.claim.pre args=true) (hwl:WellAll P h vals args) :
  ∃ a vs ns,vals=[D5 a]/\args=[WData.list (ns.map WData.int)]/\h.get? a=some { cls:=.type "list",data:=.seq vs.toArray }/\IntsAre vs ns/\ns.length<=n:=by
 have hsh:WShape.hasAll [] args [.list .int]=true:=(pre_splitW hpre).1
 have hc:l.pre.holds [] { args:=args }=true:=(pre_splitW hpre).2
 obtain ⟨d,r,rfl,h1,h2⟩:=hasAllW_cons hsh
 obtain rfl:=hasAllW_nil h2
 obtain ⟨xs,rfl,h3⟩:=hasW_list h1
 obtain ⟨ns,rfl⟩:=items_int h3
 have hlen:ns.length<=n:=by
  unfold OpenLaw.pre at hc
  have h4:(WTm.not (.lt (.lit (.int (n:Int))) (.len (.arg 0)))).holds [] { args:=[.list (ns.map .int)] }=true:=by
   have h4:=(holds_andW hc).1
   rw [hn] at h4
   exact h4
  have h5:=condW_of h4 (w_not (w_lt w_lit (w_len_list (w_arg rfl))))
  rw [C6] at h5
  refine Kl λ q=>?_
  have q':(n:Int)<((ns.length:Nat):Int):=by lia
  first
   | (rw [decide_eq_true q'] at h5; exact absurd h5 (by decide))
   | (simp at h5; lia)
 cases hwl with
 | cons w1 w2=>
  cases w2
  cases w1 with
  | list ho hall=>exact ⟨_,_,ns,rfl,rfl,ho,jg ns _ hall,hlen⟩
theorem qD (l:OpenLaw) (args:List WData):l.row.toRowW.claim.post args (.bool true) args=true:=
 postW_of (r:=l.row.toRowW) (X:=(true == true))
  (show WShape.has [] (.bool true) .bool=true by first | rfl | decide | simp [WShape.has,WShape.arms,WShape.armsAll])
  (show (WTm.eq .res (.lit (.bool true))).value [] { args:=args,res:=some (.bool true),after:=args }=some (.bool (true == true)) from w_eq_bool (w_res rfl) w_lit) rfl
theorem mW {l:OpenLaw} {q:Program} {loose:List Str} {XP:(Str->Option Value)->Heap->Prop} {YP:World->Heap->Prop} {d:DefRec}
  (hn:l.most=some n) (hdf:d.params.defaults=[])
  (call:∀ (w:World) (s₀ s₁:Shared) (mg mb:Str->Option Value) (fa:Addr) (o:Obj) (pm cd doc:Value) (a:Addr) (vs:List Value) (ns:List Int),
   Ground q loose [] XP w s₀ mg mb s₁.heap->YP w s₁.heap->
   s₁.heap.get? fa=some o->o.data=.func (docDef d.name d.params d.body d.scope pm cd doc)->s₁.heap.CodeRec cd d.name->mg d.name=some (.ref fa)->
   s₁.heap.get? a=some { cls:=.type "list",data:=.seq vs.toArray }->IntsAre vs ns->ns.length<=n->s₁.gens=#[]->
   codeAny (model l.prog w) callerA (.call (.ref fa) ⟨[.ref a],[]⟩) (λ r s'=>r=.ok (.ret (.bool true))/\OldK s₁.heap s'.heap/\s'.os=s₁.os/\AllBare s'.gens) s₁) :
  WalkO q loose XP YP l.row.toRowW d [] (λ f vs=>Ky f vs):=by
 intro w s₀ s₁ mg mb G Y fa o pm cd doc dV kV ho hd hcd hD hmg hg args vals as hpre hlay hrd hwl hlo
 obtain rfl:dV=.none:=Dflts.none hD hdf
 obtain rfl:kV=.none:=Dflts.noKw hD
 obtain ⟨a,vs,ns,rfl,rfl,hobj,hints,hlen⟩:=qC hn hpre hwl
 refine enter_call (codeAny_mono (call w s₀ s₁ mg mb fa o pm cd doc a vs ns G Y ho (fd_plain hd) hcd hmg hobj hints hlen hg) λ r s' hq=>?_)
 obtain ⟨rfl,h2,h3,h4⟩:=hq
 exact ⟨.inl ⟨.bool true,.bool true,[],rfl,λ _=>rfl,.bool true,qD l _,λ _=>⟨JW,λ _ hm=>(nomatch hm)⟩⟩,h2,h3,h4⟩
section
variable {prog:Program} {w:World} {A:Around} {E:Value->Shared->Prop} {s:Shared} {K:Frag}
end
end Att
namespace L2
open PySem PySem.Spec PyProof.Rows
theorem lZ:∀ {vs:List Value} {ns:List Int},IntsAre vs ns->Vals (ns.map MS) vs
 | _,_,.nil=>.nil
 | _,_,.cons n t h=>.cons ⟨t,rfl⟩ (lZ h)
def Bk (H:Hp):Prop:=∀ b,H b=none\/∃ o xs,H b=some (.frz o (.lst xs))
theorem uo {w:World} {K:C7} {mg mb:Str->Option Value} {CX:CXT} {fa:Addr} {fd:FuncData} {sp:Sp} {s₁:Shared} {vs:List Value} {ns:List Int}
  (KX:K.In s₁.heap) (hns:s₁.heap.Ns mainGlobals mg) (hb:s₁.heap.Ns builtinsNs mb) (hbb:∀ x:Str,x≠"__name__"->mb x=bootBuiltins x) (hlim:s₁.heap.NoLimit) (hg:s₁.gens=#[])
  (ha:s₁.heap.get? a=some { cls:=.type "list",data:=.seq vs.toArray }) (hi:IntsAre vs ns) (hl:ns.length<=sizeLine) (hr:Room k callerA)
  (F:∀ base:Heap,K.In base->base.Ns mainGlobals mg->FnOk P w K mg base CX k fa fd [x] sp) (hbind:∀ (s:Shared) (u:Value),BindsTo s fd ⟨[u],[]⟩ [(x,u)])
  (hsp:∀ H:Hp,Bk H->SqL K H a (ns.map MS)->sp [.ref a] H (λ v _=>v=.bl true) λ _ _ _=>False)
  (hCX:∀ H e s',CX [] H s₁ (λ _ _ _=>False) e s'->False) :
  codeAny (model P w) callerA (.call (.ref fa) ⟨[.ref a],[]⟩) (λ r s'=>r=.ok (.ret (.bool true))/\OldK s₁.heap s'.heap/\s'.os=s₁.os/\AllBare s'.gens) s₁:=by
 have rv:=lZ hi
 have lenV:=hi.length
 -- from an abstract heap in which nothing but the script may be tracked
 have core:∀ H:Hp,Bk H->SqL K H a (ns.map MS)->HOk P w H s₁.heap->(∀ b,H b≠none->b=a)->(H a≠none->K.lookup a=none)->
   codeAny (model P w) callerA (.call (.ref fa) ⟨[.ref a],[]⟩) (λ r s'=>r=.ok (.ret (.bool true))/\OldK s₁.heap s'.heap/\s'.os=s₁.os/\AllBare s'.gens) s₁:=by
  intro H hO hS hok hA hK
  have base_of:∀ {b:Addr} {o:Obj},s₁.heap.get? b=some o->H b=none->(tW s₁.heap H).get? b=some o:=λ e n=>tX e n
  have noA:∀ {b:Addr} {o:Obj} {es:Array DictEntry} {ep:Nat},s₁.heap.get? b=some o->o.data=.dict es ep->H b=none:=λ {b o es ep} e d=>by
   cases q:H b with
   | none=>rfl
   | some u=>
    have e':b=a:=hA b (by rw [q]; simp)
    subst e'
    rw [ha] at e; cases e
    have d':LM vs.toArray _=Data.dict es ep:=d
    cases d'
  have nsK:∀ {b:Addr} {m:Str->Option Value},s₁.heap.Ns b m->(tW s₁.heap H).Ns b m:=λ {b m} ⟨o,es,ep,e,d,r⟩=>⟨o,es,ep,base_of e (noA e d),d,r⟩
  have hKb:K.In (tW s₁.heap H):=λ b o e=>base_of (KX b o e) (by
   cases q:H b with
   | none=>rfl
   | some u=>
    have e':b=a:=hA b (by rw [q]; simp)
    subst e'
    rw [hK (by rw [q]; simp)] at e; cases e)
  have hM:Mod K mg (tW s₁.heap H):=⟨hKb,nsK hns,⟨mb,nsK hb,hbb⟩,let ⟨mc,h1,h2⟩:=hlim; ⟨mc,nsK h1,h2⟩⟩
  have e0:Env0 P w K mg (tW s₁.heap H) callerA [] s₁ H:=⟨rfl,hM,λ b o e=>v0 e,EZ (pX _ _),trivial,λ b hb=>absurd (show b∈([]:List Addr) from hb) (by simp),hok,.of_eq hg⟩
  refine codeAny_mono ((F _ hKb (nsK hns)).run callerA [] s₁ H ⟨[.ref a],[]⟩ [.ref a] [.ref a] _ _ hr e0 (hbind s₁ (.ref a)) (.cons rfl .nil) (hsp H hO hS)) λ r s' h=>?_
  cases r with
  | error e=>exact (hCX H e s' h).elim
  | ok fl=>
   cases fl with
   | next=>exact Fa h
   | brk=>exact Fa h
   | cont=>exact Fa h
   | ret u=>
    obtain ⟨v,H',os,bare,un,hok',r',q⟩:=h
    have q':v=.bl true:=q
    subst q'
    obtain rfl:u=Io true:=r'
    refine ⟨rfl,OldK.of_keep λ b o e=>?_,os,bare⟩
    cases q:H b with
    | none=>exact un.keep b o e q (by intro z; exact absurd (show b∈([]:List Addr) from z) (by simp)) (by simp)
    | some u=>
     rcases hO b with z | ⟨ob,xs,z⟩
     ·rw [q] at z; cases z
     ·have z2:=un.frzs b ob _ z
      obtain ⟨e1,_⟩:=hok b _ z
      obtain ⟨e2,_⟩:=hok' b _ z2
      rw [e] at e1; cases e1
      exact e2
 cases hk:K.lookup a with
 | some o=>
  -- the script is one of the module's own objects
  have e:=KX a o hk
  rw [ha] at e
  cases e
  refine core (λ _=>none) (λ _=>.inl rfl) (.inr ⟨_,vs.toArray,_,hk,rfl,rfl,rfl,by rw [Dm,lenV]; exact hl,by simpa using rv⟩) (λ b u z=>by have z':(none:Option HO)=some u:=z; cases z') (λ b z=>absurd rfl z) λ z=>absurd rfl z
 | none=>
  refine core (λ b=>if b=a then some (.frz { cls:=.type "list",data:=.seq vs.toArray } (.lst (ns.map MS))) else none) (λ b=>?_) (.inl (.inr ⟨{ cls:=.type "list",data:=.seq vs.toArray },if_pos rfl⟩)) (λ b u z=>?_) (λ b z=>?_) λ _=>hk
  ·by_cases hb:b=a
   ·exact .inr ⟨_,_,if_pos hb⟩
   ·exact .inl (if_neg hb)
  ·by_cases hb:b=a
   ·have z':=(if_pos hb).symm.trans z
    cases z'
    subst hb
    exact ⟨ha,by rw [C6]; exact hl,vs,_,rv,ha⟩
   ·have z':=(if_neg hb).symm.trans z
    cases z'
  ·by_cases hb:b=a
   ·exact hb
   ·exact absurd (if_neg hb) z
theorem wZ {l:IS} {q:Program} {loose:List Str} {XP:(Str->Option Value)->Heap->Prop} {YP:World->Heap->Prop} {d:DefRec} {K:Params->C7} {CX:World->CXT} {sp:World->Sp} 
  (hn:l.most=some n) (hn2:n<=sizeLine) (hdf:d.params.defaults=[]) (hr:Room k callerA)
  (hY:∀ (w:World) (h:Heap),YP w h->(K w.params).In h)
  (F:∀ (w:World) (mg:Str->Option Value) (fa:Addr) (h:Heap),(K w.params).In h->h.Ns mainGlobals mg->mg d.name=some (.ref fa)->
   ∃ fd:FuncData,(∀ (s:Shared) (u:Value),BindsTo s fd ⟨[u],[]⟩ [(x,u)])/\
    ∀ base:Heap,(K w.params).In base->base.Ns mainGlobals mg->FnOk l.prog w (K w.params) mg base (CX w) k fa fd [x] (sp w))
  (hsp:∀ (w:World) (H:Hp) (a:Addr) (ns:List Int),ns.length<=n->Bk H->SqL (K w.params) H a (ns.map MS)->sp w [.ref a] H (λ v _=>v=.bl true) λ _ _ _=>False)
  (hCX:∀ (w:World) (H:Hp) (s:Shared) (e:Value) (s':Shared),CX w [] H s (λ _ _ _=>False) e s'->False) :
  K0 q loose XP YP l.row.toRowW d [] (λ f vs=>Ky f vs):=by
 refine Att.mW hn hdf λ w s₀ s₁ mg mb fa o pm cd doc a vs ns G Y ho hd hcd hmg hobj hints hlen hg=>?_
 have KX:=hY w _ Y
 obtain ⟨fd,hb,hF⟩:=F w mg fa _ KX G.T.g hmg
 exact uo KX G.T.g G.T.b G.T.builtins G.T.nolimit hg hobj hints (D9 hlen hn2) hr hF hb (λ H hO hS=>hsp w H a ns hlen hO hS) λ H e s'=>hCX w H s₁ e s'
noncomputable def dI (s:Stmt) (j:Nat):Stmt:=match s with
 | .ClassDef _ _ _ body _ _ _ _ _ _ _=>body.getD j (.Pass ⟨0,0,0,0⟩)
 | _=>.Pass ⟨0,0,0,0⟩
noncomputable def jh (s:Stmt):Arguments:=match s with
 | .FunctionDef _ a _ _ _ _ _ _ _ _=>a
 | _=>{ posonlyargs:=[],args:=[],vararg:=none,kwonlyargs:=[],kw_defaults:=[],kwarg:=none,defaults:=[] }
noncomputable def fH (s:Stmt):List Stmt:=match s with
 | .FunctionDef _ _ b _ _ _ _ _ _ _=>b
 | _=>[]
noncomputable def ao (s:Stmt):Scope:=match s with
 | .FunctionDef _ _ _ _ _ _ sc _ _ _=>sc
 | _=>{ kind:=.function,names:=[],isGenerator:=false,isCoroutine:=false }
noncomputable abbrev CX0:CXT:=λ _ _ _ _ _ _=>False
noncomputable abbrev E0:XK:=λ _ _ _=>False
theorem aK:eh CX0 X E0:=λ _ _ _ _ _ _ _ h=>h.elim
structure Fun (K:C7) (x qual:Str) (st:Stmt) (f:Addr) (fd:FuncData):Prop where
 ex:∃ (oc:Value) (od:Option Addr) (kV doc pm:Value) (an:Option Addr) (cdv ct:Value) (osl:Array (Option Value)),
  fd=Gu x qual (jh st) (fH st) (ao st) .none kV doc pm an cdv ct/\K.lookup f=some ⟨oc,od,.func fd,osl⟩/\Hg K cdv qual=true
 kp:Fd K (.ref f)=true
section
variable {P:Program} {w:World} {K:C7} {mg:Str->Option Value} {base:Heap}
theorem Fun.ok {st:Stmt} {f:Addr} {fd:FuncData} {N ps:List Str} {sp:Sp} (F:Fun K x qual st f fd) (S:FnScope N ps (ao st)) (len:∀ vs H Q E,sp vs H Q E->vs.length=ps.length)
  (hbody:∀ (cdv:Value) (A:Around) (outer:List Env) (s:Shared) (H:Hp) (vs:List V) (Q:VK) (E:XK),Room k (A.deeper (envOfC qual (ao st) s.heap.objs.size f cdv))->sp vs H Q E->
   ∃ t,PSs (wR CX0 P w K mg base N qual (ao st) f cdv A outer s H E).nox (fH st) t/\t { nx:=λ _ H'=>Q .non H',rt:=Q } (start N vs) H):FnOk P w K mg base CX0 (k+1) f fd ps sp:=by
 obtain ⟨oc,od,kV,doc,pm,an,cdv,ct,osl,rfl,lk,hcd⟩:=F.ex
 refine Be lk hcd S len λ A outer s H vs Q E hr hsp=>?_
 obtain ⟨t,h,q⟩:=hbody cdv A outer s H vs Q E hr hsp
 exact ⟨t,h.nox,q⟩
theorem Fun.binds {st:Stmt} {f:Addr} {fd:FuncData} {ps:List Str} (F:Fun K x qual st f fd)
  (h:∀ (kV doc pm:Value) (an:Option Addr) (cdv ct:Value) (us:List Value),us.length=ps.length->bindArgs (Gu x qual (jh st) (fH st) (ao st) .none kV doc pm an cdv ct) ⟨us,[]⟩=pure (ps.zip us)):Binds K fd ps []:=by
 obtain ⟨oc,od,kV,doc,pm,an,cdv,ct,osl,rfl,lk,hcd⟩:=F.ex
 exact .all (h kV doc pm an cdv ct)
theorem vq {st:Stmt} {f:Addr} {oc:Value} {od an:Option Addr} {osl:Array (Option Value)} {kV doc pm cdv ct:Value} (l:K.lookup f=some ⟨oc,od,.func (Gu x qual (jh st) (fH st) (ao st) .none kV doc pm an cdv ct),osl⟩)
  (c:Hg K cdv qual=true) (k:Fd K (.ref f)=true):Fun K x qual st f (Gu x qual (jh st) (fH st) (ao st) .none kV doc pm an cdv ct):=⟨⟨oc,od,kV,doc,pm,an,cdv,ct,osl,rfl,l,c⟩,k⟩
end
theorem ap (h:n<=1000):n<sizeLine:=EE h (by decide)
section
variable {X:Cx}
theorem pv (i:Nat) (hN:X.N[i]? = some x:=by rfl) (hv:Vis X.env.scope x:=by first | exact Di rfl | exact FE (Di rfl) | exact FE (FE rfl)) (hd:(x == ("__debug__" : Str))=false:=by decide)
  (hcd:(x == ("__classdict__" : Str))=false:=by decide):PE X (.Name x pos) (Az i):=vi hN hv hd hcd
end
def Same (H H':Hp):Prop:=∀ b o,H b=some o->H' b=some o
theorem Same.refl (H:Hp):Same H H:=λ _ _ h=>h
theorem Same.trans {H H2:Hp} (a:Same H H1) (b:Same H1 H2):Same H H2:=λ c o h=>b c o (a c o h)
theorem Same.free {H H':Hp} (e:Same H H') {l:Addr} (h:H' l=Ma):H l=Ma:=by
 cases q:H l with
 | none=>rfl
 | some o=>
  rw [e l o q] at h
  cases h
theorem Same.seq {K:C7} {H H':Hp} (e:Same H H') (h:SqL K H a xs):SqL K H' a xs:=by
 rcases h with (h | ⟨o,h⟩) | h
 ·exact .inl (.inl (e _ _ h))
 ·exact .inl (.inr ⟨o,e _ _ h⟩)
 ·exact .inr h
section
variable {X:Cx} {pins:List (Addr×Obj)} {σ:St} {H:Hp} {s:Shared}
theorem Inv.adopt {D:Addr} (I:Inv X pins σ H s) (hn:H D=none) (hL:D≠X.env.locals)
  (h1:D∈X.ex\/X.s₀.heap.objs.size<=D) (h2:∀ x c,X.env.cells.lookup x=some c->c≠D) (h3:∀ p∈X.pn++pins,p.1≠D)
  (new:ObjOk X.prog X.w (upd H D o) s.heap D o):Inv X pins σ (upd H D o) s:=by
 have nit:∀ b u,H b=some u->b≠D:=λ b u e z=>by rw [z,hn] at e; cases e
 have keep:∀ b u,H b=some u->upd H D o b=some u:=λ b u e=>by rw [af (nit b u e)]; exact e
 refine I.step (h':=s.heap) (g':=s.gens) (d':=s.drawn) (t':=s.toks) (ch:=[D]) (λ b hb=>?_) (λ b o _ _ _ e _=>e) (λ b o _ _ _ e _=>⟨o.slots,e⟩) (λ b u hc e n=>?_)
  (λ b o _ e=>⟨o,e⟩) (λ b xs e=>keep b _ e) (λ b o u e=>keep b _ e) (λ b ps e=>⟨#[],by rw [keep b _ e]; simp⟩) (λ m hm=>hm) (λ b u e=>?_) I.bare
 ·have e:b=D:=by simpa using hb
  subst e
  exact ⟨h1,hL,h2,h3⟩
 ·rw [af (λ z=>hc (by simp [z]))]; exact n
 ·by_cases hb:b=D
  ·subst hb; rw [ab] at e; cases e; exact new
  ·rw [af hb] at e
   exact (I.hok b u e).stay (λ c v _ q=>q) (λ c q=>keep c _ q) λ c xs q=>keep c _ q
end
noncomputable def az (X:Cx) (N:List Str) (scope:Scope) (cl:List (Str×Addr)) (fp:List Addr) (C:Addr) (s:Shared) (H:Hp):Cx:=
 { X with N:=N,s₀:=s,H₀:=H,env:=compEnvC scope cl C X.env,outer:=X.stack,ex:=fp,fn:=λ _=>false,pn:=[],xe:=λ _ _=>False }
noncomputable def FrOk (X:Cx) (scope:Scope) (cl:List (Str×Addr)):List Str->Prop
 | []=>True
 | x::r=>(X.env.kindOf x=some .cell/\(relabel scope X.env).names.lookup x=some .cell/\∃ c,cl.lookup x=some c/\X.env.cells.lookup x=some c)/\FrOk X scope cl r
theorem FrOk.mem {X:Cx} {scope:Scope} {cl:List (Str×Addr)}:∀ {l:List Str},FrOk X scope cl l->∀ x∈l,
  X.env.kindOf x=some .cell/\(relabel scope X.env).names.lookup x=some .cell/\∃ c,cl.lookup x=some c/\X.env.cells.lookup x=some c
 | [],_,_,h=>nomatch h
 | y::r,⟨h1,h2⟩,x,h=>by
  rcases Dx.mp h with e | e
  ·subst e; exact h1
  ·exact FrOk.mem h2 x e
noncomputable def ClOk (X:Cx):List (Str×Addr)->Prop
 | []=>True
 | p::r=>X.env.cells.lookup p.1=some p.2/\ClOk X r
theorem ClOk.get {X:Cx}:∀ {l:List (Str×Addr)},ClOk X l->∀ x c,l.lookup x=some c->X.env.cells.lookup x=some c
 | [],_,_,_,h=>by simp at h
 | p::r,⟨h1,h2⟩,x,c,h=>by
  obtain ⟨n,a⟩:=p
  cases e:x == n with
  | true=>
   have e':x=n:=by simpa using e
   subst e'
   simp only [Km,e] at h
   cases h
   exact h1
  | false=>
   simp only [Km,e] at h
   exact ClOk.get h2 x c h
structure CompOk (X:Cx) (N tgs frs:List Str) (ix:List Nat) (scope:Scope) (cl:List (Str×Addr)):Prop where
 clos:closureFor scope X.env=pure cl
 cell:∀ y∈scope.names,y.2≠.cell
 kind:scope.kind=.function
 names:∀ y∈scope.names,y.2=.local->scope.names.lookup y.1=some .local
 nm:N=tgs++frs
 ixs:ix.map (X.N[·]?)=frs.map some
 fr:FrOk X scope cl frs
 cls:ClOk X cl
 has:(relabel scope X.env).names.all (λ p=>!(p.2 == .cell || p.2 == .free) || (cl.lookup p.1).isSome)=true
noncomputable def gq (tgs:List Str) (ix:List Nat) (σ:St):St:=DC tgs.length none++ix.map λ j=>(σ[j]?).getD none
section
variable {X:Cx} {N tgs frs:List Str} {ix:List Nat} {scope:Scope} {cl:List (Str×Addr)}
theorem o7 (c:CompOk X N tgs frs ix scope cl) (h1:N[i]? = some x) (h2:(gq tgs ix σ)[i]? = some (some v)):x∈frs/\∃ j:Nat,X.N[j]? = some x/\σ[j]? = some (some v):=by
 unfold gq at h2
 by_cases hi:i<tgs.length
 ·rw [Do (by simpa using hi),GK,if_pos hi] at h2
  cases h2
 ·rw [Dy (by simpa using hi),Ja,De] at h2
  rw [c.nm,Dy (by lia)] at h1
  have e:=congrArg (·[i - tgs.length]?) c.ixs
  simp only [De,h1] at e
  cases q:ix[i - tgs.length]? with
  | none=>rw [q] at e; cases e
  | some j=>
   rw [q] at e h2
   simp only [Kz,MA] at e h2
   refine ⟨Ek h1,j,e,?_⟩
   cases z:σ[j]? with
   | none=>rw [z] at h2; cases h2
   | some o=>rw [z] at h2; simp at h2; rw [h2]
theorem kg {l:List (Str×NameKind)} {k:NameKind} (h:l.lookup x=some k):(x,k)∈l:=Fq h
theorem CompOk.hasOf (c:CompOk X N tgs frs ix scope cl) (h:(relabel scope X.env).names.lookup x=some .cell\/(relabel scope X.env).names.lookup x=some .free):∃ a,cl.lookup x=some a:=by
 have all:=Kn.mp c.has
 rcases h with h | h
 ·have q:=all _ (kg h)
  exact GE.mp (by simpa only [beq_self_eq_true,LL,Gb,K9] using q)
 ·have q:=all _ (kg h)
  exact GE.mp (by simpa only [beq_self_eq_true,Bool.or_true,Gb,K9] using q)
theorem kM {H:Hp} {s2:Shared} {h1:Heap} {C:Addr} {m:Str->Option Value} (c:CompOk X N tgs frs ix scope cl) (I:Inv X pins σ H s2) (hf:∀ b∈fp,pV X pins H b) (hfl:∀ b∈fp,b<s2.heap.objs.size)
  (hC:s2.heap.objs.size<=C) (hns:h1.Ns C m) (hk:∀ b o,s2.heap.get? b=some o->h1.get? b=some o) {pins':List (Addr×Obj)}
  (hpin:∀ p∈pins',h1.get? p.1=some p.2/\s2.heap.objs.size<=p.1/\p.1≠C/\∀ v,p.2.data≠.cell v) :
  Inv (az X N scope cl fp C s2 H) pins' (gq tgs ix σ) H { s2 with heap:=h1,toks:=tk }:=by
 have hcn:∀ x a,cl.lookup x=some a->X.env.cells.lookup x=some a:=c.cls.get
 have clt:∀ x a,cl.lookup x=some a->a<s2.heap.objs.size:=λ x a e=>by
  obtain ⟨v,q⟩:=I.cell x a (hcn x a e)
  exact q.lt
 refine ⟨⟨I.ok.mod,c.kind,I.ok.glob,I.ok.blt,hC,λ x y a h1 h2=>I.ok.inj x y a (hcn _ _ h1) (hcn _ _ h2),λ x hx=>c.hasOf hx,(λ x a z _=>Bool.noConfusion z),I.ok.hd,I.ok.frames,.inl rfl,λ b hb=>⟨?_,λ x a e=>?_⟩,I.bs,D9 I.ok.bsz I.sz,λ b o e hb=>?_,λ b hb z=>?_,I.stack,I.stkFree⟩,
  rfl,I.bare,Un.kept hk,⟨m,hns,λ i x v e1 e2 e3=>?_⟩,λ x a e=>?_,I.hok.fresh hC,λ x a e=>I.freeC x a (hcn x a e),λ p hp=>?_,I.hok.kept hk,?_⟩
 ·exact Dw (Ds (hfl b hb) hC)
 ·exact (hf b hb).2.2.2.2.1 x a (hcn x a e)
 ·rcases (hf b hb).2.2.2.1 with z | z
  ·exact I.ok.noex b o e z
  ·exact absurd (Ds (Dp (I.ok.bs b o e).1) z) (EM _)
 ·rcases Dx.mp (I.stkSub b z) with e | e
  ·exact (hf b hb).2.1 e
  ·exact (hf b hb).2.2.1 e
 ·obtain ⟨hx,j,n1,n2⟩:=o7 c e1 e2
  obtain ⟨k1,k2,a,l1,l2⟩:=c.fr.mem x hx
  obtain ⟨m',_,hl⟩:=I.loc
  obtain ⟨u,r,l⟩:=hl j x v n1 n2 (.inr (.inl k1))
  refine ⟨u,r,.inr ⟨.inl k2,a,l1,?_⟩⟩
  rcases l with ⟨l,_⟩ | ⟨_,a',l3,o,l4,l5⟩
  ·rw [k1] at l; cases l
  ·rw [l2] at l3; cases l3
   exact ⟨o,hk _ _ l4,l5⟩
 ·obtain ⟨v,o,q1,q2⟩:=I.cell x a (hcn x a e)
  exact ⟨v,o,hk _ _ q1,q2⟩
 ·have hp':p∈pins':=by simpa [az] using hp
  obtain ⟨q1,q2,q3,q4⟩:=hpin p hp'
  exact ⟨q1,I.hok.fresh q2,q3,λ z=>by
   rcases Dx.mp (I.stkSub p.1 z) with e | e
   ·exact absurd (Ds I.lt q2) (by rw [e]; exact EM _)
   ·exact I.nofs q2 e,q4⟩
 ·show (gq tgs ix σ).length=N.length
  unfold gq
  have e:=congrArg L7 c.ixs
  simp only [C6] at e
  rw [c.nm]; simp [e]
theorem iC {prog:Program} {w:World} {A:Around} {R:Result->Shared->Prop} {s:Shared} {elt target iter:Expr} {pos:Pos} {it acc:Value} {env:Env} (I:Nat->Shared->Prop)
  (turn:∀ n s,I n s->wpAny (model prog w) A (pyNext it) (λ r s1=>match r with
   | none=>R (.ok .next) s1
   | some v=>wpAny (model prog w) A (letOwnedTupleGo target it v) (λ _ s1'=>wpAny (model prog w) A (assign target env v) (λ _ s2=>wpAny (model prog w) A (eval elt env) (λ x s3=>
     wpAny (model prog w) A (call (.builtin "list.append") [acc,x]) (λ _ s4=>∃ m,m<n/\I m s4) (λ _ _=>False) s3)
     (λ _ _=>False) s2) (λ _ _=>False) s1') (λ _ _=>False) s1) (λ _ _=>False) s)
  (n:Nat) (h:I n s) :
  codeAny (model prog w) A (.compLoop (.ListComp elt [⟨target,iter,[],0⟩] scope pos) 0 it acc env) R s:=by
 have up:∀ {α:Type} {t:Sem α} {Q Q':α->Shared->Prop} {E:Value->Shared->Prop} {s:Shared},wpAny (model prog w) A t Q (λ _ _=>False) s->(∀ a s,Q a s->Q' a s)->wpAny (model prog w) A t Q' E s:=λ h hq=>wpAny_mono h hq λ _ _ f=>f.elim
 refine codeAny_loop rfl I (λ n s hI=>?_) n h
 show wpAny _ _ ((compTurn (.ListComp elt [⟨target,iter,[],0⟩] scope pos) 0 it acc env).onRaise (λ x=>do noteFrame x env; theTreesLotGoes x)) _ _ s
 refine wpAny_noted ?_
 rw [compTurn_list1]
 refine wpAny_bind (wpAny_standAt (wpAny_bind (up (turn n s hI) (λ r s1 h1=>?_))))
 cases r with
 | none=>exact wpAny_pure h1
 | some v=>
  refine wpAny_bind (up h1 λ _ s1' h1'=>?_)
  exact wpAny_bind (up h1' (λ _ s2 h2=>wpAny_bind (wpAny_bind (up h2 (λ x s3 h3=>wpAny_bind (up h3
   (λ _ s4 h4=>wpAny_pure (wpAny_pure ⟨rfl,h4⟩))))))))
def qE (wi:TI) (g:TG) (te:TE) (tgs:List Str) (ix:List Nat):TE:=λ σ H Q=>wi σ H λ J H1=>
 ∃ W:Nat->Nat->List V->St->Hp->Prop,(∃ m,W 0 m [] (gq tgs ix σ) H1)/\∀ i m xs σc H,W i m xs σc H->xs.length<sizeLine/\
  ((J.stop i H/\∀ p,H p=none->Q (.ref p) (upd H p (.lst xs)))\/(J.go i H/\∀ x H',J.yld i H x H'->g x σc H' λ σ2 H2=>te σ2 H2 λ y H3=>∃ m',m'<m/\W (i+1) m' (xs++[y]) σ2 H3))
noncomputable abbrev aZ (us:List Value) (k:Nat):Obj:={ cls:=.type "list",data:=.seq us.toArray k }
theorem w5 {te:TE} (c:CompOk X N tgs frs ix scope cl) (hc:X.calm=true) (hi:PI X tg iter wi)
  (hg:∀ fp C s H,PG (az X N scope cl fp C s H) tg g) (he:∀ fp C s H,PE (az X N scope cl fp C s H) elt te)
  (hs:∀ x,foldedSetIterable iter X.env x=pure x:=by intro _; rfl) :
  PE X (.ListComp elt [⟨tg,iter,[],0⟩] scope pos) (qE wi g te tgs ix):=by
 intro pins s σ H Q I h
 rw [eval_ListComp]
 refine wpAny_comprehension_free (use:=none) rfl hs c.clos c.kind c.names (thn (hi pins s σ H _ I h) λ xv s1 h1=>thn h1 λ itv s2 h2=>?_)
 obtain ⟨it,fp,tn,J,H2,rfl,I2,T,st2,f2,W,⟨m0,w0⟩,turn⟩:=h2
 have hfl:∀ b∈fp,b<s2.heap.objs.size:=λ b hb=>by
  obtain ⟨o,e,_⟩:=T.obj _ _ st2 b hb
  exact Dp e
 have hcn:∀ x a,cl.lookup x=some a->X.env.cells.lookup x=some a:=c.cls.get
 refine wpAny_newObj_type (wpAny_newFunctionEnv c.cell (by intro y hy; simp at hy) (λ h1 hns1 hsb1=>?_) c.kind)
 dsimp only at hns1 hsb1 ⊢
 generalize hH2:s2.heap.push { cls:=.type "list",dict:=none,data:=.seq ([]:List Value).toArray }=G2 at hns1 hsb1 ⊢
 have hC:G2.objs.size=s2.heap.objs.size+1:=by rw [<-hH2,GJ]
 generalize hCC:G2.objs.size=C at *
 generalize hDD:s2.heap.objs.size=D at *
 have hDC:D≠C:=by lia
 have hCle:D<=C:=by lia
 have old:∀ b o,s2.heap.get? b=some o->h1.get? b=some o:=λ b o e=>by
  have lt:b<s2.heap.objs.size:=Dp e
  exact hsb1.extBut b o (Dw (Ds (hDD▸lt) hCle)) (Dd _ (hH2▸Dd _ e))
 have hacc:h1.get? D=some (aZ [] 0):=hsb1.extBut _ _ hDC (Dd _ (hH2▸(hDD▸DB _ rfl)))
 have cellD:∀ x a,X.env.cells.lookup x=some a->a<D:=λ x a e=>by
  obtain ⟨v,q⟩:=I2.cell x a e
  exact hDD▸q.lt
 have fpc:∀ {H':Hp} {us:List Value} {k:Nat},(∀ b∈fp,H' b=none)->∀ b∈fp,pV (az X N scope cl fp C s2 H2) [(D,aZ us k)] H' b:=λ {H' us k} hn b hb=>by
  have lb:=hfl b hb
  refine ⟨hn b hb,?_,λ z=>?_,.inl hb,λ x a e z=>?_,λ p hp=>?_⟩
  ·exact Dw (Ds lb hCle)
  ·rcases Dx.mp (I2.stkSub b z) with e | e
   ·exact (f2 b hb).2.1 e
   ·exact (f2 b hb).2.2.1 e
  ·exact (f2 b hb).2.2.2.2.1 x a (hcn x a e) z
  ·have:p=(D,aZ us k):=by simpa [az] using hp
   rw [this]; exact E8 lb
 have D_fs:D∉(az X N scope cl fp C s2 H2).fs:=λ z=>by
  rcases Dx.mp (I2.stkSub D z) with e | e
  ·exact absurd I2.lt (by rw [<-e,hDD]; exact EM _)
  ·exact I2.nofs (EZ hDD) e
 have I3:=kM (tk:=s2.toks+([]:List (Str×Value)).length) (pins':=[(D,aZ [] 0)]) c I2 f2 (λ b hb=>hDD▸hfl b hb) (hDD▸hCle:s2.heap.objs.size<=C) hns1 old (λ p hp=>by
  have e:p=(D,aZ [] 0):=by simpa using hp
  subst e
  exact ⟨hacc,EZ hDD,hDC,λ v z=>by cases z⟩)
 have tn3:tn 0 h1:=T.keep _ _ _ st2 λ b _ o e=>old b o e
 have loop:codeAny (model X.prog X.w) X.A (.compLoop (.ListComp elt [⟨tg,iter,[],0⟩] scope pos) 0 (.ref it) (.ref D) (compEnvC scope cl C X.env))
   (compPost (model X.prog X.w) X.A X.xe none (EP X pins σ Q) (.ref D) C) { s2 with heap:=h1,toks:=s2.toks+([]:List (Str×Value)).length }:=by
  refine iC (λ n s'=>∃ i xs us k σc H',Inv (az X N scope cl fp C s2 H2) [(D,aZ us k)] σc H' s'/\tn i s'.heap/\(∀ b∈fp,H' b=none)/\Vals xs us/\W i n xs σc H') ?_ m0
   ⟨0,[],[],0,_,H2,I3,tn3,λ b hb=>(f2 b hb).1,.nil,w0⟩
  rintro n s4 ⟨i,xs,us,k,σ4,H4,I4,tn4,fr4,rv,w4⟩
  obtain ⟨hsz,tt⟩:=turn i n xs σ4 H4 w4
  rcases tt with ⟨stop,fin⟩ | ⟨go,step⟩
  ·refine thn (T.done (az X N scope cl fp C s2 H2) rfl rfl rfl hc i _ s4 σ4 H4 _ I4 (fpc fr4) tn4 stop) λ r s5 ⟨hr,I5⟩=>?_
   subst hr
   obtain ⟨m,ns,_⟩:=I5.loc
   refine ⟨m,ns,λ h' sb=>?_⟩
   have J1:Inv X pins σ H4 s5:=I2.call' I5.os I5.base I5.hok I5.bare λ b hb=>⟨(f2 b hb).2.2.2.1,(f2 b hb).2.1,(f2 b hb).2.2.2.2.1,(f2 b hb).2.2.2.2.2⟩
   have big:∀ a,D<=a->a≠X.env.locals/\(a∈X.ex\/X.s₀.heap.objs.size<=a)/\(∀ x y,X.env.cells.lookup x=some y->y≠a)/\∀ p∈X.pn++pins,p.1≠a:=λ a ha=>by
    obtain ⟨q0,q1,q2,q3,q4,q5⟩:=I2.fpOk (b:=a) (H':=λ _=>none) (hDD▸ha) rfl
    exact ⟨q1,q3,q4,q5⟩
   obtain ⟨b1,b2,b3,b4⟩:=big C hCle
   have J2:Inv X pins σ H4 { s5 with heap:=h' }:=J1.turned (t':=s5.toks) (λ b o hb e=>sb.extBut b o hb e) I5.free b1 b2 b3 b4
   obtain ⟨p1,p2,p3,p4,p5⟩:=I5.pin (D,aZ us k) (by simp)
   obtain ⟨d1,d2,d3,d4⟩:=big D (C8 _)
   have J3:Inv X pins σ (upd H4 D (.lst xs)) { s5 with heap:=h' }:=J2.adopt p2 d1 d2 d3 d4 ⟨EN hsz,us,k,rv,sb.extBut _ _ hDC p1⟩
   exact ⟨.ref D,_,J3,rfl,fin D p2⟩
  ·refine thn (T.item (az X N scope cl fp C s2 H2) rfl rfl rfl hc i _ s4 σ4 H4 _ I4 (fpc fr4) tn4 go) λ r s5 ⟨u,hr,h5⟩=>?_
   subst hr
   refine thn h5 λ _ s6 ⟨x,H6,I6,r6,y6,tn6,fr6⟩=>?_
   have I6':=I6.pinned (fpc fr6) (T.obj _ _ tn6)
   refine thn (hg fp C s2 H2 _ s6 σ4 H6 x u _ I6' r6 (step x H6 y6)) λ _ s7 ⟨σ7,H7,I7,q7⟩=>?_
   refine thn (he fp C s2 H2 _ s7 σ7 H7 _ I7 q7) λ yv s8 ⟨y,H8,I8,r8,m',hm,w8⟩=>?_
   obtain ⟨p1,p2,p3,p4,p5⟩:=I8.pin (D,aZ us k) (by simp [az])
   have hsz':us.toArray.size<=sizeLine:=by simp; rw [<-rv.length]; exact EN hsz
   refine wpAny_list_append_plain (hsz:=hsz') ⟨k,p1⟩ λ h' pl sb=>?_
   have tn8:tn (i+1) s8.heap:=T.keep _ _ _ tn6 λ b hb o e=>(I8.pin (b,o) (Dj _ (Dj _ (bm hb e)))).1
   have fr8:∀ b∈fp,H8 b=none:=λ b hb=>by
    obtain ⟨o,e,d⟩:=T.obj _ _ tn6 b hb
    exact (I8.pin (b,o) (Dj _ (Dj _ (bm hb e)))).2.1
   have I9:Inv (az X N scope cl fp C s2 H2) [] σ7 H8 s8:=I8.pins_of λ p hp=>nomatch hp
   have I10:Inv (az X N scope cl fp C s2 H2) [] σ7 H8 { s8 with heap:=h' }:=I9.turned (t':=s8.toks) (it:=D) (λ b o hb e=>sb.extBut b o hb e) p2 p3 (.inr (EZ hDD))
    (λ x a e=>Dw (cellD x a (hcn x a e))) (λ p hp=>by simp [az] at hp)
   obtain ⟨k',pl⟩:=pl
   have eu:us.toArray.push yv=(us++[yv]).toArray:=by simp
   rw [eu] at pl
   have I11:Inv (az X N scope cl fp C s2 H2) [(D,aZ (us++[yv]) k')] σ7 H8 { s8 with heap:=h' }:=I10.pins_of λ p hp=>by
    have e:p=(D,aZ (us++[yv]) k'):=by simpa using hp
    subst e
    exact ⟨pl,p2,p3,p4,λ v z=>by cases z⟩
   exact ⟨m',hm,i+1,xs++[y],us++[yv],k',σ7,H8,I11,T.keep _ _ _ tn8 λ b hb o e=>sb.extBut b o (Dw (hfl b hb)) e,fr8,rv.append (.cons r8 .nil),w8⟩
 exact codeAny_compStart_list loop (T.self _ 0 _ _ _ tn3 loop)
end
section
variable {X:Cx}
def uq (i j:Int):Prop:=0<j/\j.natAbs.log2<9000
theorem o8 {j:Int} (h0:0<j) (h:j<2 ^ 64):j.natAbs.log2<9000:=by
 have:j.natAbs<2 ^ 64:=by lia
 have h2:=(Hl (by lia:j.natAbs≠0)).mpr this
 lia
theorem ur:OpR X (binaryOp .FloorDiv) (rI uq λ i j=>.int (i / j)):=opI λ i j _ _ _ _ _ hc q=>by
 have e:i.fdiv j=i / j:=Int.fdiv_eq_ediv_of_nonneg _ (Int.le_of_lt hc.1)
 exact floordiv_int (Int.ne_of_gt hc.1) (by rw [e]; exact q) (.inl (IC hc.2))
theorem ut:dh X (.builtin "isinstance") (λ xs H Q=>∃ x t T b,xs=[x,.ty T]/\TyOf X.K H x t/\Gs X.K t (.type T)=some b/\Q (.bl b) H):=by
 intro pins s σ H xs us Q I r h
 obtain ⟨x,t,T,b,rfl,ty,e,q⟩:=h
 obtain ⟨u,w',rfl,ru,rw'⟩:=za r
 cases (show w'=EK T from rw')
 exact qj I ru ty e λ tk=>⟨.bl b,H,I.tok _,rfl,q⟩
example (K:C7):Gs K (.type "int") (.type "int")=some true:=rfl
example (K:C7):Gs K (.type "int") (.type "bool")=some false:=rfl
example (K:C7):Gs K (.type "tuple") (.type "tuple")=some true:=rfl
end
noncomputable def cI:Expr->Bool
 | .Starred ..=>false
 | _=>true
theorem aP {e:Expr} {es:List Expr} {env:Env} (h:cI e=true):starEach (e::es) env=(false,eval e env)::starEach es env:=by
 cases e<;>first | rfl | cases h
theorem iQ {pos:Pos} {env:Env}:∀ {es:List Expr},es.all cI=true->(backTo pos (starEach es env)).any (·.1)=false
 | [],_=>rfl
 | e::es,h=>by
  rw [HU,Ey] at h
  rw [aP h.1]
  exact iQ (es:=es) h.2
section
variable {X:Cx} {CX:CXT} {k:Nat} {f:Addr} {fd:FuncData} {ps:List Str} {sp:Sp} {E:XK} {x:Str} {p pos apos cpos:Pos} {e o:Expr} {es:List Expr} {te to:TE} {t:TA} {id T:String} {name:Str}
theorem CB (ha:PE X e te) (hr:PA X es t) (hn:cI e=true:=by rfl):PA X (e::es) (ue te t):=wM ha hr (aP hn)
theorem uu (F:FnOk X.prog X.w X.K X.mg X.base CX k f fd ps sp) (hr:Room k X.A) (hg:Gl X x) (hm:X.mg x=some (.ref f)) (hk:Fd X.K (.ref f)=true) (hb:Binds X.K fd ps []) (hx:eh CX X E)
  (ha:PA X (e::es) t) (hn:(e::es).all cI=true:=by rfl) (hdb:(x == ("__debug__" : Str))=false:=by decide):PE X (.Call (.Name x p) (e::es) [] pos) (uf sp [] E t):=by
 rw [HU,Ey] at hn
 exact wO F hr hg hm hk hb .nil hx ha hdb (aP hn.1) (iQ hn.2)
theorem qF {r:List V->Hp->VK->Prop} (hc:dh X (.builtin id) r) (hg:Gl X x) (hm:X.mg x=none) (hv:bootBuiltins x=some (.builtin id)) (ha:PA X (e::es) t) (hn:(e::es).all cI=true:=by rfl) (hn2:x≠"__name__":=by decide) (hdb:(x == ("__debug__" : Str))=false:=by decide) :
  PE X (.Call (.Name x p) (e::es) [] pos) (tCB r t):=by
 rw [HU,Ey] at hn
 exact ui hc hg hm hv ha hn2 hdb (aP hn.1) (iQ hn.2)
theorem pb {r:List V->Hp->VK->Prop} (hc:dh X (.type T) r) (hg:Gl X x) (hm:X.mg x=none) (hv:bootBuiltins x=some (.type T)) (ha:PA X (e::es) t) (hn:(e::es).all cI=true:=by rfl) (hn2:x≠"__name__":=by decide) (hdb:(x == ("__debug__" : Str))=false:=by decide) :
  PE X (.Call (.Name x p) (e::es) [] pos) (tCB r t):=by
 rw [HU,Ey] at hn
 exact qq hc hg hm hv ha hn2 hdb (aP hn.1) (iQ hn.2)
theorem qG {r:V->List V->Hp->VK->Prop} (pa:PlainAttrs T) (slot:Slot T name id) (hty:typeOf (.builtin id)=pure (.type "method_descriptor")) (hm:MtR X id r) (ho:PE X o to) (ha:PA X [e] t)
  (hbase:attributeBase o name X.env (eval o X.env)=eval o X.env:=by rfl) (hline:(apos.endLine == cpos.line)=true:=by rfl) (hn:cI e=true:=by rfl) :
  PE X (.Call (.Attribute o name apos) [e] [] cpos) (tBM X.K T r to t):=by
 refine Bi pa slot hty hm ho ha hbase ?_ hline (aP hn) rfl
 rw [aP hn]; rfl
end
section
variable {K:C7} {σ:St} {H:Hp} {Q:VK} {D:Ends} {E:XK}
theorem B4 {t u:TS} (h:t { D with nx:=u D } σ H):AS t u D σ H:=h
theorem B5 {te:TE} (h:te σ H λ x H1=>g x σ H1 D.nx):t5 te g D σ H:=h
theorem uv {R:St->Hp->Prop} (h:R (σ.set i (some v)) H):eO i v σ H R:=h
theorem Bl {ti:TE} {t:wv} {R:St->Hp->Prop} (h:to σ H λ o H1=>ti σ H1 λ i H2=>t o i v H2 λ H3=>R σ H3):AX to ti t v σ H R:=h
theorem B6 {te:TE} (h:te σ H D.rt):AT te D σ H:=h
theorem Bm {te:TE} (h:te σ H λ _ H1=>D.nx σ H1):wq te D σ H:=h
theorem Bn (h:D.nx σ H):p0 D σ H:=h
theorem CC {c:TT} {t u:TS} (h:c σ H λ b H1=>if b=true then t D σ H1 else u D σ H1):AU c t u D σ H:=h
theorem Bo {t:TE} {R:Bool->Hp->Prop} (h:t σ H λ x H'=>∃ k,x=.bl k/\R k H'):wH t σ H R:=h
theorem C1 {t:TE} {R:Bool->Hp->Prop} (h:t σ H λ x H'=>∃ k,x=.bl k/\R k H'):tB t σ H R:=h
theorem CD {b:Bool} {R:Bool->Prop} (h:R b):∃ k,V.bl b=.bl k/\R k:=⟨b,rfl,h⟩
theorem B7 {t:TT} {R:Bool->Hp->Prop} (h:t σ H λ c H1=>R (!c) H1):AQ t σ H R:=h
theorem CF {t u:TT} {R:Bool->Hp->Prop} (h:t σ H λ c H1=>if c=true then R true H1 else u σ H1 R):tOr t u σ H R:=h
theorem B8 {t u:TT} {R:Bool->Hp->Prop} (h:t σ H λ c H1=>if c=true then u σ H1 R else R false H1):AO t u σ H R:=h
theorem Bp {tb:TE} (h:ta σ H λ x H1=>∃ c,x=.bl c/\if c=true then tb σ H1 Q else Q (.bl false) H1):wf ta tb σ H Q:=h
theorem C2 (h:Q v H):tC v σ H Q:=h
theorem CG {r:R2} {tb:TE} (h:ta σ H λ x H1=>tb σ H1 λ y H2=>r x y H2 Q):tOp r ta tb σ H Q:=h
theorem CH {r:V->Hp->VK->Prop} (h:ta σ H λ x H1=>r x H1 Q):tUn r ta σ H Q:=h
theorem CI {g:Int->Int->V} {i j:Int} (h:Q (g i j) H):rI0 g (.int i) (.int j) H Q:=⟨i,j,rfl,rfl,h⟩
theorem CJ {C:Int->Int->Prop} {g:Int->Int->V} {i j:Int} (c:C i j) (h:Q (g i j) H):rI C g (.int i) (.int j) H Q:=⟨i,j,rfl,rfl,c,h⟩
theorem C3 {g:Int->V} {i:Int} (h:Q (g i) H):rU g (.int i) H Q:=⟨i,rfl,h⟩
theorem B9 {i j:Int} (h:Q (.bl (decide (MS i=MS j))) H):rEq (.int i) (.int j) H Q:=⟨rfl,h⟩
theorem br {p:Addr} {i:Int} (s:SqL K H p xs) (a:atI xs i=some v) (h:Q v H):zj K (.ref p) (.int i) H Q:=⟨p,xs,i,v,rfl,rfl,s,a,h⟩
theorem gr {p:Addr} {i:Int} (s:SqT K H p xs) (a:atI xs i=some v) (h:Q v H):zk K (.ref p) (.int i) H Q:=⟨p,xs,i,v,rfl,rfl,s,a,h⟩
theorem cg {p:Addr} {k:Int} {R:Hp->Prop} (s:H p=some (.lst xs)) (a:ixN xs.length k=some j) (h:R (upd H p (.lst (xs.set j v)))):qx (.ref p) (.int k) v H R:=⟨p,xs,k,j,rfl,rfl,s,a,h⟩
theorem zr {p:Addr} {i:Int} (s:H p=some (.lst xs)) (h:∃ v,atI xs i=some v/\Q v H):zj K (.ref p) (.int i) H Q:=let ⟨v,a,q⟩:=h; ⟨p,xs,i,v,rfl,rfl,MQ s,a,q⟩
theorem w6 {p:Addr} {i:Int} (s:H p=some (.tup xs)) (h:∃ v,atI xs i=some v/\Q v H):zk K (.ref p) (.int i) H Q:=let ⟨v,a,q⟩:=h; ⟨p,xs,i,v,rfl,rfl,MR s,a,q⟩
theorem xa {p:Addr} {k:Int} {R:Hp->Prop} (s:H p=some (.lst xs)) (h:∃ j,ixN xs.length k=some j/\R (upd H p (.lst (xs.set j v)))):qx (.ref p) (.int k) v H R:=let ⟨j,a,q⟩:=h; ⟨p,xs,k,j,rfl,rfl,s,a,q⟩
theorem CK {r:List V->Hp->VK->Prop} (h:t σ H λ vs H1=>r vs H1 Q):tCB r t σ H Q:=h
theorem Bq {tr:TA} {R:List V->Hp->Prop} (h:ta σ H λ x H1=>tr σ H1 λ xs H2=>R (x::xs) H2):ue ta tr σ H R:=h
theorem Ca {R:List V->Hp->Prop} (h:R [] H):zd σ H R:=h
theorem Br {sp:Sp} (h:t σ H λ vs H1=>sp (vs++[]) H1 Q E):uf sp [] E t σ H Q:=h
theorem Cb (h:t σ H λ xs H1=>xs.length<=sizeLine/\∀ p,H1 p=none->Q (.ref p) (upd H1 p (.lst xs))):Bd t σ H Q:=h
theorem Cc (h:t σ H λ xs H1=>xs.length<=sizeLine/\∀ p,H1 p=none->Q (.ref p) (upd H1 p (.tup xs))):Bc t σ H Q:=h
theorem kN {A B:Prop} (h:A):if true=true then A else B:=by rw [if_pos rfl]; exact h
theorem eU {A B:Prop} (h:B):if false=true then A else B:=by rw [if_neg Dt]; exact h
theorem aY {c A B:Prop} [Decidable c] (h1:c->A) (h2:¬ c->B):if decide c=true then A else B:=by
 by_cases h:c
 ·rw [decide_eq_true h]; exact kN (h1 h)
 ·rw [decide_eq_false h]; exact eU (h2 h)
theorem zt {c A B:Prop} [Decidable c] (hc:c) (h:A):if decide c=true then A else B:=by rw [decide_eq_true hc]; exact kN h
theorem qH {c A B:Prop} [Decidable c] (hc:c) (h:B):if (!decide c)=true then A else B:=by rw [decide_eq_true hc]; exact eU h
theorem aL (h:n<=1000):n<=sizeLine:=EN (ap h)
theorem Bs {i j:Int} (h1:0<j) (h2:j<2 ^ 64):uq i j:=⟨h1,o8 h1 h2⟩
theorem Bt {i:Int} {e:Nat} (h1:0<b) (h2:b<=64) (h3:e<=1000):uq i ((b ^ e:Nat):Int):=by
 have hp:0<b ^ e:=Hm h1
 refine ⟨Int.natCast_pos.mpr hp,?_⟩
 rw [Gf,Hl (E8 hp)]
 have h4:b ^ e<=64 ^ e:=Nat.pow_le_pow_left h2 e
 have h5:(64:Nat) ^ e=2 ^ (6*e):=by rw [Nat.pow_mul]
 have h6:2 ^ (6*e)<2 ^ 9000:=Nat.pow_lt_pow_right (by decide) (by lia)
 lia
theorem CL {i j:Int} (h1:0<j) (h2:j<1073741824):Cy i j:=⟨h1,h2⟩
theorem Bu {i j:Int} (h1:-(2 ^ 64)<i) (h2:i<2 ^ 64):CMul i j:=.inl ⟨h1,h2⟩
theorem Bv {i j:Int} (h1:-(2 ^ 64)<j) (h2:j<2 ^ 64):CMul i j:=.inr ⟨h1,h2⟩
theorem CM {i j:Int} (h1:0<=j) (h2:j<=1000000) (h3:i.natAbs<2 ^ 64):AB i j:=⟨h1,h2,h3⟩
theorem AC (h:Q (.int 1000000000000000000) H):rI AB (λ i j=>.int (i ^ j.toNat)) (.int 10) (.int 18) H Q:=⟨10,18,rfl,rfl,⟨by decide,by decide,by decide⟩,by
 have e:(10:Int) ^ (18:Int).toNat=1000000000000000000:=by decide
 show Q (.int ((10:Int) ^ (18:Int).toNat)) H
 rw [e]; exact h⟩
noncomputable abbrev RC:=List V->Hp->VK->Prop
def Bw:RC:=λ xs H Q=>∃ i,xs=[.int i]/\Q (.int (if i<0 then -i else i)) H
def xb:RC:=λ xs H Q=>∃ k,xs=[.bl k]/\Q (.int (if k then 1 else 0)) H
def xf:RC:=λ xs H Q=>∃ i j,xs=[.int i,.int j]/\Q (.int (if j<i then j else i)) H
def AD (K:C7):RC:=λ xs H Q=>∃ p ys,xs=[.ref p]/\(SqL K H p ys\/SqT K H p ys)/\Q (.int ys.length) H
def yr (K:C7):RC:=λ xs H Q=>∃ x t T b,xs=[x,.ty T]/\TyOf K H x t/\Gs K t (.type T)=some b/\Q (.bl b) H
def mX (K:C7):RC:=λ xs H Q=>∃ p ys,xs=[.ref p]/\(SqL K H p ys\/SqT K H p ys)/\∀ l,H l=none->Q (.ref l) (upd H l (.lst ys))
def iR (K:C7):RC:=λ xs H Q=>∃ p ys,xs=[.ref p]/\((SqL K H p ys/\∀ l,H l=none->Q (.ref l) (upd H l (.tup ys)))\/(SqT K H p ys/\Q (.ref p) H))
section
variable {X:Cx}
theorem zu:dh X (.builtin "abs") Bw:=ub
theorem zw:dh X (.type "int") xb:=λ pins s σ H xs us Q I r h=>qe pins s σ H xs us Q I r (.inr h)
theorem zx (hc:X.calm=true):dh X (.builtin "min") xf:=qd hc
theorem zy:dh X (.builtin "len") (AD X.K):=lW
theorem zz:dh X (.builtin "isinstance") (yr X.K):=ut
theorem xg:dh X (.type "list") (mX X.K):=lX
theorem uw:dh X (.type "tuple") (iR X.K):=kK
end
theorem Cd {i:Int} (h:Q (.int (if i<0 then -i else i)) H):Bw [.int i] H Q:=⟨i,rfl,h⟩
theorem Bx {k:Bool} (h:Q (.int (if k then 1 else 0)) H):xb [.bl k] H Q:=⟨k,rfl,h⟩
theorem Ce {i j:Int} (h:Q (.int (if j<i then j else i)) H):xf [.int i,.int j] H Q:=⟨i,j,rfl,h⟩
theorem bb {p:Addr} (s:SqL K H p ys) (h:Q (.int ys.length) H):AD K [.ref p] H Q:=⟨p,ys,rfl,.inl s,h⟩
theorem qI {p:Addr} (s:SqT K H p ys) (h:Q (.int ys.length) H):AD K [.ref p] H Q:=⟨p,ys,rfl,.inr s,h⟩
theorem ux {p:Addr} (s:H p=some (.tup xs)) (h:Q (.bl true) H):yr K [.ref p,.ty "tuple"] H Q:=⟨_,_,_,_,rfl,.tup s,rfl,h⟩
theorem l0 {p:Addr} (s:SqL K H p ys\/SqT K H p ys) (h:∀ l,H l=none->Q (.ref l) (upd H l (.lst ys))):mX K [.ref p] H Q:=⟨p,ys,rfl,s,h⟩
theorem ji {p:Addr} (s:SqL K H p ys) (h:∀ l,H l=none->Q (.ref l) (upd H l (.tup ys))):iR K [.ref p] H Q:=⟨p,ys,rfl,.inl ⟨s,h⟩⟩
theorem g7 {r:Int} (h0:0<=r) (h1:r<xs.length):∃ v,atI xs r=some v/\v∈xs:=by
 have hl:r.toNat<xs.length:=by lia
 have e:r=(r.toNat:Int):=by lia
 refine ⟨xs[r.toNat],?_,Dl hl⟩
 have:=aO (xs:=xs) (j:=r.toNat) (v:=xs[r.toNat]) (by simp [hl])
 rw [<-e] at this; exact this
theorem Cf (h:wi σ H λ J H1=>∃ W:Nat->Nat->St->Hp->Prop,(∃ m,W 0 m σ H1)/\∀ i m σ H,W i m σ H->
 (J.stop i H/\D.nx σ H)\/(J.go i H/\∃ N:St->Hp->Prop,(∀ σ' H',N σ' H'->∃ m',m'<m/\W (i+1) m' σ' H')/\∀ x H',J.yld i H x H'->g x σ H' λ σ2 H2=>tb { D with nx:=N,ct:=N,bk:=D.nx } σ2 H2)):A0 wi g tb D σ H:=h
theorem By {ta:TA} {R:It->Hp->Prop} (h:ta σ H λ vs H1=>∃ j:Int,vs=[.int j]/\-(2 ^ 62)<=j/\j<2 ^ 62/\R (Itr 0 j.toNat) H1):wC ta σ H R:=h
theorem AE {tl:TE} {R:It->Hp->Prop} (h:tl σ H λ x H1=>∃ a,x=.ref a/\(∃ xs,SqL K H1 a xs)/\R (Itl K a) H1):wA K tl σ H R:=h
theorem Bz {tl:TE} {R:It->Hp->Prop} (h:tl σ H λ x H1=>∃ a,x=.ref a/\(∃ xs,SqT K H1 a xs)/\R (Itt K a) H1):AZ K tl σ H R:=h
theorem CN {A B:Prop} (h:B):if (!true)=true then A else B:=eU h
theorem CO {A B:Prop} (h:A):if (!false)=true then A else B:=kN h
theorem BA {te:TE} {tgs:List Str} {ix:List Nat} (h:wi σ H λ J H1=>
 ∃ W:Nat->Nat->List V->St->Hp->Prop,(∃ m,W 0 m [] (gq tgs ix σ) H1)/\∀ i m xs σc H,W i m xs σc H->xs.length<sizeLine/\
  ((J.stop i H/\∀ p,H p=none->Q (.ref p) (upd H p (.lst xs)))\/(J.go i H/\∀ x H',J.yld i H x H'->g x σc H' λ σ2 H2=>te σ2 H2 λ y H3=>∃ m',m'<m/\W (i+1) m' (xs++[y]) σ2 H3))):qE wi g te tgs ix σ H Q:=h
end
structure QE (X:Cx) (e:Expr) (t:TE):Prop where
 out:PE X e t
structure QT (X:Cx) (e:Expr) (t:TT):Prop where
 out:PT X e t
structure QW (X:Cx) (e:Expr) (t:TT):Prop where
 out:PW X e t
structure QA (X:Cx) (es:List Expr) (t:TA):Prop where
 out:PA X es t
structure QO (X:Cx) (e:Option Expr) (t:TO):Prop where
 out:PO X e t
structure QI (X:Cx) (tg iter:Expr) (t:TI):Prop where
 out:PI X tg iter t
structure QG (X:Cx) (tg:Expr) (t:TG):Prop where
 out:PG X tg t
structure QGs (X:Cx) (ts:List Expr) (t:TGs):Prop where
 out:PGs X ts t
structure QS (X:Cx) (st:Stmt) (t:TS):Prop where
 out:PS X st t
structure QB (X:Cx) (sts:List Stmt) (t:TS):Prop where
 out:PSs X sts t
structure QOp (X:Cx) (f:Value->Value->Sem Value) (r:R2):Prop where
 out:OpR X f r
structure QUn (X:Cx) (f:Value->Sem Value) (r:V->Hp->VK->Prop):Prop where
 out:UnR X f r
structure QC (X:Cx) (f:Value) (r:List V->Hp->VK->Prop):Prop where
 out:dh X f r
structure QIx (X:Cx) (r:R2):Prop where
 out:IxR X r
structure QSl (X:Cx) (r:V->Option Int->Option Int->Hp->VK->Prop):Prop where
 out:SlR X r
noncomputable def Cg:Expr->Bool
 | .Slice ..=>false
 | _=>true
theorem uy {b:Expr} (h:Cg b=true):qw b:=by
 cases b<;>first | (intro _ _; rfl) | cases h
def Ch (K:C7) (ta:TE):TT:=λ σ H Q=>ta σ H λ x H'=>∃ k,yq K x H' k/\Q k H'
section
variable {X:Cx} {a b c e o:Expr} {es rest:List Expr} {ta tb tc te to ti:TE} {tA tB':TT} {t:TA} {pos p p2 apos cpos:Pos} {r r':R2} {x:Str}
theorem qv (i:Nat) {x:Str} {pos:Pos} (hN:X.N[i]? = some x:=by rfl) (hv:Vis X.env.scope x:=by first | exact Di rfl | exact FE (Di rfl) | exact FE (FE rfl)) (hd:(x == ("__debug__" : Str))=false:=by decide)
  (hcd:(x == ("__classdict__" : Str))=false:=by decide):QE X (.Name x pos) (Az i):=⟨vi hN hv hd hcd⟩
theorem ag {i j pos}:QE X (.Constant (.int i) j pos) (tC (.int i)):=⟨vj⟩
theorem xh {b j pos}:QE X (.Constant (.bool b) j pos) (tC (.bl b)):=⟨AN⟩
theorem c7 {j pos}:QE X (.Constant .none j pos) (tC .non):=⟨yE⟩
theorem kh {x j pos}:QE X (.Constant (.str x) j pos) (tC (.str x)):=⟨yF⟩
theorem kO (hg:Gl X x) (hm:X.mg x=none) (hv:bootBuiltins x=some u) (r:RelV v u) (hn:x≠"__name__":=by decide) (hd:(x == ("__debug__" : Str))=false:=by decide):QE X (.Name x pos) (tC v):=⟨wb hg hm hv r hn hd⟩
theorem aU {op:Operator} (ho:QOp X (binaryOp op) r) (ha:QE X a ta) (hb:QE X b tb):QE X (.BinOp a op b pos) (tOp r ta tb):=⟨A2 ho.out ha.out hb.out⟩
theorem xi {op:UnaryOp} {r:V->Hp->VK->Prop} (ho:QUn X (unaryOp op) r) (ha:QE X a ta):QE X (.UnaryOp op a pos) (tUn r ta):=⟨yV ho.out ha.out⟩
theorem fJ {op:CmpOp} (ho:QOp X (compareOp op) r) (ha:QE X a ta) (hb:QE X b tb) (hm:behindInMarks op b=false):QE X (.Compare a [op] [b] pos) (tOp r ta tb):=⟨wG ho.out ha.out hb.out hm⟩
theorem aB {op:CmpOp} (ho:QOp X (compareOp op) r) (ha:QE X a ta) (hb:QE X b tb) (hm:behindInMarks op b=false):QT X (.Compare a [op] [b] pos) (wH (tOp r ta tb)):=⟨wI ho.out ha.out hb.out hm⟩
theorem zA {op} (h:QE X a ta):QE X (.BoolOp op [a] pos) ta:=⟨yK h.out⟩
theorem zB (ha:QE X a ta) (hb:QE X (.BoolOp .And (b::rest) pos) tb):QE X (.BoolOp .And (a::b::rest) pos) (wf ta tb):=⟨yL ha.out hb.out⟩
theorem vt (ha:QT X a tA):QT X (.UnaryOp .Not a pos) (AQ tA):=⟨yJ ha.out⟩
theorem l6 (h:QE X a ta) (he:∀ whole,isTrue a X.env whole=(do let v <-whole; standAt a.pos; holding [v] (truthy v)):=by intro _; rfl):QT X a (tB ta):=⟨yG h.out he⟩
theorem kP {K:C7} (h:QE X a ta) (he:∀ whole,isTrue a X.env whole=(do let v <-whole; standAt a.pos; holding [v] (truthy v)):=by intro _; rfl) (hK:X.K=K:=by rfl):QT X a (Ch K ta):=by subst hK; exact ⟨ua h.out he⟩
theorem jj (ha:QT X a tA):QW X (.BoolOp .And [a] pos) tA:=⟨wc ha.out⟩
theorem vv (ha:QT X a tA):QW X (.BoolOp .Or [a] pos) tA:=⟨yH ha.out⟩
theorem ki (ha:QT X a tA) (hb:QW X (.BoolOp .And (b::rest) pos) tB'):QW X (.BoolOp .And (a::b::rest) pos) (AO tA tB'):=⟨yI ha.out hb.out⟩
theorem xj (ha:QT X a tA) (hb:QW X (.BoolOp .Or (b::rest) pos) tB'):QW X (.BoolOp .Or (a::b::rest) pos) (tOr tA tB'):=⟨AR ha.out hb.out⟩
theorem QW.qt (h:QW X e tA):QT X e tA:=⟨h.out.pt⟩
theorem ad:QA X [] zd:=⟨ze⟩
theorem al (ha:QE X e te) (hr:QA X es t) (hn:cI e=true:=by rfl):QA X (e::es) (ue te t):=⟨CB ha.out hr.out hn⟩
theorem bC (h:QA X es t):QE X (.List es pos) (Bd t):=⟨zg h.out⟩
theorem bo {x1} (h:QA X es t):QE X (.Tuple es x1 pos) (Bc t):=⟨zf h.out⟩
theorem aC (hr:QIx X r) (ha:QE X a ta) (hb:QE X b tb) (hs:Cg b=true:=by rfl):QE X (.Subscript a b pos) (tOp r ta tb):=⟨Bg hr.out ha.out hb.out (uy hs)⟩
theorem qJ:QO X none mS:=⟨wU⟩
theorem cD (h:QE X e te):QO X (some e) (wT te):=⟨wV h.out⟩
theorem dJ {r:V->Option Int->Option Int->Hp->VK->Prop} {lo hi:Option Expr} {tl th:TO} (hr:QSl X r) (he:QE X e te) (hl:QO X lo tl) (hu:QO X hi th):QE X (.Subscript e (.Slice lo hi none p2) pos) (tSl r te tl th):=⟨um hr.out he.out hl.out hu.out⟩
theorem ay {id:String} {r:RC} (hc:QC X (.builtin id) r) (hg:Gl X x) (hm:X.mg x=none) (hv:bootBuiltins x=some (.builtin id)) (ha:QA X (e::es) t) (hn:(e::es).all cI=true:=by rfl) (hn2:x≠"__name__":=by decide) (hdb:(x == ("__debug__" : Str))=false:=by decide) :
  QE X (.Call (.Name x p) (e::es) [] pos) (tCB r t):=⟨qF hc.out hg hm hv ha.out hn hn2 hdb⟩
theorem aV {T:String} {r:RC} (hc:QC X (.type T) r) (hg:Gl X x) (hm:X.mg x=none) (hv:bootBuiltins x=some (.type T)) (ha:QA X (e::es) t) (hn:(e::es).all cI=true:=by rfl) (hn2:x≠"__name__":=by decide) (hdb:(x == ("__debug__" : Str))=false:=by decide) :
  QE X (.Call (.Name x p) (e::es) [] pos) (tCB r t):=⟨pb hc.out hg hm hv ha.out hn hn2 hdb⟩
theorem av {CX:CXT} {f:Addr} {fd:FuncData} {ps:List Str} {sp:Sp} {E:XK} (F:FnOk X.prog X.w X.K X.mg X.base CX k f fd ps sp) (hr:Room k X.A) (hg:Gl X x) (hm:X.mg x=some (.ref f)) (hk:Fd X.K (.ref f)=true) (hb:Binds X.K fd ps []) (hx:eh CX X E)
  (ha:QA X (e::es) t) (hn:(e::es).all cI=true:=by rfl) (hdb:(x == ("__debug__" : Str))=false:=by decide):QE X (.Call (.Name x p) (e::es) [] pos) (uf sp [] E t):=⟨uu F hr hg hm hk hb hx ha.out hn hdb⟩
theorem dA {K:C7} (ho:QE X o to) (ha:QA X [e] t) (hbase:attributeBase o ("append" : Str) X.env (eval o X.env)=eval o X.env:=by rfl) (hline:(apos.endLine == cpos.line)=true:=by rfl) (hn:cI e=true:=by rfl) (hK:X.K=K:=by rfl) :
  QE X (.Call (.Attribute o "append" apos) [e] [] cpos) (tBM K "list" mU to t):=by subst hK; exact ⟨qG FZ PySem.F.slot_list_append PySem.F.type_list_append qy ho.out ha.out hbase hline hn⟩
variable {tg iter:Expr} {wi:TI} {g:TG} {i:Nat} {u:TGs}
theorem dB {p pos:Pos} (hg:Gl X "range") (hm:X.mg "range" = none) (ha:QA X [a] t) (hn:cI a=true:=by rfl):QI X tg (.Call (.Name "range" p) [a] [] pos) (wC t):=⟨p8 hg hm ha.out (aP hn)⟩
theorem bc {K:C7} (hl:QE X e te) (hK:X.K=K:=by rfl):QI X tg e (wA K te):=by subst hK; exact ⟨wB hl.out⟩
theorem qK {K:C7} (hl:QE X e te) (hK:X.K=K:=by rfl):QI X tg e (AZ K te):=by subst hK; exact ⟨yT hl.out⟩
theorem ak (hN:X.N.Nodup) (hi:X.N[i]? = some x) (hx:Loc X.env.scope x) (hf:X.fn x=true\/X.env.scope.names.lookup x=some .local:=by first | exact .inl rfl | exact .inr rfl | assumption):QG X (.Name x pos) (eO i):=⟨ww hN hi hx hf⟩
theorem bE:QGs X [] yN:=⟨wx⟩
theorem aq {ts:List Expr} (h1:QG X e g) (h2:QGs X ts u) (hs:(assignEach (e::ts) X.env).map (·.2)=assign e X.env::(assignEach ts X.env).map (·.2):=by rfl):QGs X (e::ts) (iJ g u):=⟨tZ h1.out h2.out hs⟩
theorem c8 {K:C7} {ts:List Expr} (hc:X.calm=true) (h:QGs X ts u) (hn:(assignEach ts X.env).length=n:=by rfl) (hst:(assignEach ts X.env).findIdx? (·.1)=none:=by rfl) (hK:X.K=K:=by rfl):QG X (.Tuple ts k pos) (AA K n u):=by subst hK; exact ⟨yO hc h.out hn hst⟩
variable {st:Stmt} {sts s1 s2:List Stmt} {T1 T2:TS}
theorem bP:QB X [] p0:=⟨wg⟩
theorem ac (h1:QS X st T1) (h2:QB X sts T2):QB X (st::sts) (AS T1 T2):=⟨tY h1.out h2.out⟩
theorem am (h1:QS X st T1):QB X [st] T1:=⟨wj h1.out⟩
theorem aD (he:QE X e te):QS X (.Return (some e) pos) (AT te):=⟨yM he.out⟩
theorem xk:QS X (.Pass pos) p0:=⟨wo⟩
theorem eV (he:QE X e te) (hs:swapsWith e none pos.line X.env=pure false:=by rfl):QS X (.Expr e pos) (wq te):=⟨wu he.out hs⟩
theorem di (hc:QT X c tA) (ha:QB X s1 T1) (hb:QB X s2 T2):QS X (.If c s1 s2 pos) (AU tA T1 T2):=⟨AV hc.out ha.out hb.out⟩
theorem au (hN:X.N.Nodup) (hi:X.N[i]? = some x) (hx:Loc X.env.scope x) (he:QE X e te) (hs:swapsWith e (some (.Name x pos')) pos.line X.env=pure false:=by rfl) (hf:X.fn x=true\/X.env.scope.names.lookup x=some .local:=by first | exact .inl rfl | exact .inr rfl | assumption) :
  QS X (.Assign [.Name x pos'] e pos) (t5 te (eO i)):=⟨yQ hN hi hx he.out hs hf⟩
theorem cJ {tpos:Pos} (he:QE X e te) (ho:QE X o to) (hi:QE X b tb)
  (ha:∀ v,assign (.Subscript o b tpos) X.env v=(do
   let ov <-holding [v] (eval o X.env)
   let iv <-holding [v,ov] (eval b X.env)
   standAt tpos
   holding [v,ov,iv] (setItem ov iv v)
   release [v,ov,iv] []):=by intro _; rfl)
  (hs:swapsWithSole [.Subscript o b tpos] e pos.line X.env=pure false:=by rfl) (hw:swappedStores [.Subscript o b tpos] e X.env=pure none:=by rfl)
  (h1:(assignEach [.Subscript o b tpos] X.env).map (·.2)=[assign (.Subscript o b tpos) X.env]:=by rfl):QS X (.Assign [.Subscript o b tpos] e pos) (t5 te (AX to tb qx)):=⟨p6 he.out (yP ho.out hi.out nP ha) hs hw h1⟩
theorem nQ {op:Operator} {ti:R2} (hN:X.N.Nodup) (hi:X.N[i]? = some x) (hx:Loc X.env.scope x) (he:QE X e te) (ho:QOp X (inplaceOp op) ti) (hf:X.fn x=true\/X.env.scope.names.lookup x=some .local:=by first | exact .inl rfl | exact .inr rfl | assumption) :
  QS X (.AugAssign (.Name x pos') op e pos) (AY i te ti):=⟨yR hN hi hx he.out ho.out hf⟩
theorem dL (hp:PassesOwn (model X.prog X.w) X.A X.env X.xe) (hc:QT X c tA) (hb:QB X sts T1):QS X (.While c sts [] pos) (vm tA T1):=⟨t6 hp hc.out hb.out⟩
theorem dC (hp:PassesOwn (model X.prog X.w) X.A X.env X.xe) (hc:X.calm=true) (hi:QI X tg iter wi) (hg:QG X tg g) (hb:QB X sts T1) (hs:∀ x,foldedSetIterable iter X.env x=pure x:=by intro _; rfl):QS X (.For tg iter sts [] pos) (A0 wi g T1):=⟨yU hp hc hi.out hg.out hb.out hs⟩
theorem bF {N tgs frs:List Str} {ix:List Nat} {cl:List (Str×Addr)} (c:CompOk X N tgs frs ix scope cl) (hc:X.calm=true) (hi:QI X tg iter wi)
  (hg:∀ fp C s H,QG (az X N scope cl fp C s H) tg g) (he:∀ fp C s H,QE (az X N scope cl fp C s H) elt te)
  (hs:∀ x,foldedSetIterable iter X.env x=pure x:=by intro _; rfl) :
  QE X (.ListComp elt [⟨tg,iter,[],0⟩] scope pos) (qE wi g te tgs ix):=⟨w5 c hc hi.out (λ fp C s H=>(hg fp C s H).out) (λ fp C s H=>(he fp C s H).out) hs⟩
theorem cK:QOp X (binaryOp .Add) (rI0 λ i j=>.int (i+j)):=⟨yW⟩
theorem xl:QOp X (binaryOp .Sub) (rI0 λ i j=>.int (i - j)):=⟨yX⟩
theorem pc:QOp X (binaryOp .Mult) (rI CMul λ i j=>.int (i*j)):=⟨yY⟩
theorem xm:QOp X (binaryOp .FloorDiv) (rI uq λ i j=>.int (i / j)):=⟨ur⟩
theorem kQ:QOp X (binaryOp .Mod) (rI (λ _ j=>0<j) λ i j=>.int (i % j)):=⟨yZ⟩
theorem BB:QOp X (binaryOp .Pow) (rI AB λ i j=>.int (i ^ j.toNat)):=⟨y7⟩
theorem BC:QOp X (binaryOp .Add) B2:=⟨zp⟩
theorem zC:QOp X (binaryOp .Mult) B3:=⟨zq⟩
theorem uz:QOp X (compareOp .Eq) rEq:=⟨A5⟩
theorem Ci:QOp X (compareOp .NotEq) rNe:=⟨A6⟩
theorem vw:QOp X (compareOp .Lt) (rI0 λ i j=>.bl (decide (i<j))):=⟨A7⟩
theorem vx:QOp X (compareOp .Gt) (rI0 λ i j=>.bl (decide (j<i))):=⟨A8⟩
theorem CP:QOp X (compareOp .GtE) (rI0 λ i j=>.bl (decide (j<=i))):=⟨A9⟩
theorem l7:QOp X (inplaceOp .Add) (rI0 λ i j=>.int (i+j)):=⟨wE⟩
theorem xn:QUn X (unaryOp .USub) (rU λ i=>.int (-i)):=⟨vn⟩
theorem bg {K:C7} (hK:X.K=K:=by rfl):QIx X (zj K):=by subst hK; exact ⟨ix_list⟩
theorem dD {K:C7} (hK:X.K=K:=by rfl):QIx X (zk K):=by subst hK; exact ⟨ix_tup⟩
theorem qL {K:C7} (hK:X.K=K:=by rfl):QSl X (B0 K):=by subst hK; exact ⟨wX⟩
theorem vy:QC X (.builtin "abs") Bw:=⟨zu⟩
theorem qM:QC X (.type "int") xb:=⟨zw⟩
theorem zD (hc:X.calm=true):QC X (.builtin "min") xf:=⟨zx hc⟩
theorem bt {K:C7} (hK:X.K=K:=by rfl):QC X (.builtin "len") (AD K):=by subst hK; exact ⟨zy⟩
theorem vz {K:C7} (hK:X.K=K:=by rfl):QC X (.builtin "isinstance") (yr K):=by subst hK; exact ⟨zz⟩
theorem mY {K:C7} (hK:X.K=K:=by rfl):QC X (.type "list") (mX K):=by subst hK; exact ⟨xg⟩
theorem gu {K:C7} (hK:X.K=K:=by rfl):QC X (.type "tuple") (iR K):=by subst hK; exact ⟨uw⟩
end
section
variable {P:Program} {w:World} {K:C7} {mg:Str->Option Value} {base:Heap}
theorem Fun.okQ {st:Stmt} {f:Addr} {fd:FuncData} {N ps:List Str} {sp:Sp} (F:Fun K x qual st f fd) (S:FnScope N ps (ao st)) (len:∀ vs H Q E,sp vs H Q E->vs.length=ps.length)
  (hbody:∀ (cdv:Value) (A:Around) (outer:List Env) (s:Shared) (H:Hp) (vs:List V) (Q:VK) (E:XK),Room k (A.deeper (envOfC qual (ao st) s.heap.objs.size f cdv))->sp vs H Q E->
   ∃ t,QB (wR CX0 P w K mg base N qual (ao st) f cdv A outer s H E).nox (fH st) t/\t { nx:=λ _ H'=>Q .non H',rt:=Q } (start N vs) H):FnOk P w K mg base CX0 (k+1) f fd ps sp:=
 F.ok S len λ cdv A outer s H vs Q E hr hsp=>by
  obtain ⟨t,h,q⟩:=hbody cdv A outer s H vs Q E hr hsp
  exact ⟨t,h.out,q⟩
end
def BD (K:C7) (te:TE):TE:=λ σ H Q=>te σ H λ x H1=>∃ a xs,x=.ref a/\SqL K H1 a xs/\∀ p,H1 p=none->Q (.ref p) (upd H1 p (.lst xs.reverse))
section
variable {X:Cx} {e:Expr} {te:TE} {pos p1 p2 p3:Pos} {j:Nat}
theorem zE (he:PE X e te):PE X (.Subscript e (.Slice none none (some (.UnaryOp .USub (.Constant (.int 1) j p1) p2)) p3) pos) (BD X.K te):=by
 intro pins s σ H Q I h
 refine Subscript_ (thn (he pins s σ H _ I h) λ v s1 ⟨x,H1,I1,r1,q1⟩=>?_)
 obtain ⟨a,xs,rfl,hx,q⟩:=q1
 cases r1
 refine wpAny_Slice (evalPart_none_step (evalPart_none_step (evalPart_some_step ?_)))
 refine thn (yV (X:=X) vn vj pins s1 σ H1 (λ x H'=>x=.int (-1)/\H'=H1) I1 ⟨1,rfl,rfl,rfl⟩) λ vk s2 ⟨y,H2,I2,r2,e2,e3⟩=>?_
 subst e2 e3
 obtain ⟨t,rfl⟩:=r2
 have I4:Inv X pins σ H2 { s2 with heap:=s2.heap.push { cls:=.type "slice",data:=.fields #[.none,.none,.int (-1) t] } }:=I2.kept (t':=s2.toks) λ b ob q=>Dd _ q
 obtain ⟨its,r,ht,hz⟩:=I4.list hx
 have hlen:=r.length
 show wpAny (model X.prog X.w) X.A (subscriptTail e (.Slice none none (some (.UnaryOp .USub (.Constant (.int 1) j p1) p2)) p3) (.ref a) (.ref s2.heap.objs.size)) (EP X pins σ Q) X.xe { s2 with heap:=s2.heap.push { cls:=.type "slice",data:=.fields #[.none,.none,.int (-1) t] } }
 refine tail_any (ops:=[.ref a,.ref s2.heap.objs.size]) ht.isList.typeIs slot_list_getitem.lookup ?_ (by with_unfolding_all rfl)
 refine wpAny_getItem_list_slice ht.isList (Ht ..) .none .none (.int (-1) t) (by decide) ?_ (by rw [Dm]; lia)
 rw [PySem.W.krv_pick]
 refine ⟨.ref _,_,I4.laid (t':=s2.toks) (o:=.lst xs.reverse) (λ b ob q=>Dd _ q) (C8 _) ?_,rfl,q _ (I4.hok.fresh (C8 _))⟩
 exact ⟨by rw [FW]; exact hz,its.reverse,0,r.reverse,DB _ rfl⟩
theorem zF {K:C7} (he:QE X e te) (hK:X.K=K:=by rfl):QE X (.Subscript e (.Slice none none (some (.UnaryOp .USub (.Constant (.int 1) j p1) p2)) p3) pos) (BD K te):=by subst hK; exact ⟨zE he.out⟩
end
section
variable {X:Cx}
end
section
variable {K:C7} {σ:St} {H:Hp} {Q:VK} {D:Ends}
theorem Cj {te:TE} (h:te σ H λ x H1=>∃ a xs,x=.ref a/\SqL K H1 a xs/\∀ p,H1 p=none->Q (.ref p) (upd H1 p (.lst xs.reverse))):BD K te σ H Q:=h
theorem xo {x:V} {R:V->V->Prop} (h:R x y):∃ v w,[x,y]=[v,w]/\R v w:=⟨x,y,rfl,h⟩
theorem CQ {r:V->List V->Hp->VK->Prop} {T:String} (h:to σ H λ x H1=>tyV K T x H1/\t σ H1 λ xs H2=>r x xs H2 Q):tBM K T r to t σ H Q:=h
theorem bS {l:Addr} (s:H l=some (.lst xs)) (z:xs.length<sizeLine) (h:Q .non (upd H l (.lst (xs++[y])))):mU (.ref l) [y] H Q:=⟨l,xs,y,rfl,rfl,s,z,h⟩
theorem cj {l:Addr} (h:H l=some (.lst xs)):tyV K "list" (.ref l) H:=.inl ⟨rfl,_,MQ h⟩
theorem Same.new {p:Addr} (e:Same H H1) (h:H1 p=none):Same H (upd H1 p o):=λ b u q=>by rw [af (ae (e b u q) h)]; exact e b u q
theorem Same.own {p:Addr} (e:Same H H1) (h:H p=none):Same H (upd H1 p o):=λ b u q=>by rw [af (ae q h)]; exact e b u q
end
def Nx (n i:Nat) (P:Prop):Prop:=∃ m',m'<n - i/\m'=n - (i+1)/\i+1<=n/\P
theorem Nx.mk {P:Prop} (h:i<n) (p:P):Nx n i P:=⟨n - (i+1),by lia,rfl,h,p⟩
section
variable {K:C7} {H:Hp} {g:TG} {te:TE} {σ0:St} {R:List V->Hp->Prop}
theorem uA (Pv:Nat->List V->St->Hp->Prop) (hz:n<sizeLine) (hl:∀ i ys σ H,Pv i ys σ H->ys.length=i) (h0:Pv 0 [] σ0 H)
  (hs:∀ i ys σ H,i<n->Pv i ys σ H->g (.int (0+i)) σ H λ σ2 H2=>te σ2 H2 λ y H3=>Nx n i (Pv (i+1) (ys++[y]) σ2 H3)) (hd:∀ ys σ H,Pv n ys σ H->R ys H) :
  ∃ W:Nat->Nat->List V->St->Hp->Prop,(∃ m,W 0 m [] σ0 H)/\∀ i m xs σc H,W i m xs σc H->xs.length<sizeLine/\
  (((Itr 0 n).stop i H/\R xs H)\/((Itr 0 n).go i H/\∀ x H',(Itr 0 n).yld i H x H'->g x σc H' λ σ2 H2=>te σ2 H2 λ y H3=>∃ m',m'<m/\W (i+1) m' (xs++[y]) σ2 H3)):=by
 refine ⟨λ i m xs σ H=>m=n - i/\i<=n/\Pv i xs σ H,⟨n,by simp,Du _,h0⟩,?_⟩
 rintro i m xs σ H ⟨rfl,hi,p⟩
 refine ⟨by rw [hl i xs σ H p]; exact EE hi hz,?_⟩
 by_cases hlt:i<n
 ·refine .inr ⟨hlt,λ x H' y=>?_⟩
  obtain ⟨e,y⟩:=y
  subst e y
  exact hs i xs σ _ hlt p
 ·have e:i=n:=by lia
  subst e
  exact .inl ⟨C8 _,hd xs σ H p⟩
theorem qN (Pv:Nat->List V->St->Hp->Prop) (hz:vs.length<sizeLine) (hl:∀ i ys σ H,Pv i ys σ H->ys.length=i) (ht:∀ i ys σ H,Pv i ys σ H->SqT K H a vs) (h0:Pv 0 [] σ0 H)
  (hs:∀ i ys σ H x,vs[i]? = some x->Pv i ys σ H->g x σ H λ σ2 H2=>te σ2 H2 λ y H3=>Nx vs.length i (Pv (i+1) (ys++[y]) σ2 H3)) (hd:∀ ys σ H,Pv vs.length ys σ H->R ys H) :
  ∃ W:Nat->Nat->List V->St->Hp->Prop,(∃ m,W 0 m [] σ0 H)/\∀ i m xs σc H,W i m xs σc H->xs.length<sizeLine/\
  (((Itt K a).stop i H/\R xs H)\/((Itt K a).go i H/\∀ x H',(Itt K a).yld i H x H'->g x σc H' λ σ2 H2=>te σ2 H2 λ y H3=>∃ m',m'<m/\W (i+1) m' (xs++[y]) σ2 H3)):=by
 refine ⟨λ i m xs σ H=>m=vs.length - i/\i<=vs.length/\Pv i xs σ H,⟨vs.length,by simp,Du _,h0⟩,?_⟩
 rintro i m xs σ H ⟨rfl,hi,p⟩
 have q:=ht i xs σ H p
 refine ⟨by rw [hl i xs σ H p]; exact EE hi hz,?_⟩
 by_cases hlt:i<vs.length
 ·refine .inr ⟨⟨vs,vs[i],q,by simp [hlt]⟩,λ x H' y=>?_⟩
  obtain ⟨e,y⟩:=y
  subst e
  exact hs i xs σ _ x (y vs q) p
 ·have e:i=vs.length:=by lia
  subst e
  exact .inl ⟨⟨vs,q,C8 _⟩,hd xs σ H p⟩
theorem bp (Pv:Nat->List V->St->Hp->Prop) (hz:vs.length<sizeLine) (hl:∀ i ys σ H,Pv i ys σ H->ys.length=i) (ht:∀ i ys σ H,Pv i ys σ H->SqL K H a vs) (h0:Pv 0 [] σ0 H)
  (hs:∀ i ys σ H x,vs[i]? = some x->Pv i ys σ H->g x σ H λ σ2 H2=>te σ2 H2 λ y H3=>Nx vs.length i (Pv (i+1) (ys++[y]) σ2 H3)) (hd:∀ ys σ H,Pv vs.length ys σ H->R ys H) :
  ∃ W:Nat->Nat->List V->St->Hp->Prop,(∃ m,W 0 m [] σ0 H)/\∀ i m xs σc H,W i m xs σc H->xs.length<sizeLine/\
  (((Itl K a).stop i H/\R xs H)\/((Itl K a).go i H/\∀ x H',(Itl K a).yld i H x H'->g x σc H' λ σ2 H2=>te σ2 H2 λ y H3=>∃ m',m'<m/\W (i+1) m' (xs++[y]) σ2 H3)):=by
 refine ⟨λ i m xs σ H=>m=vs.length - i/\i<=vs.length/\Pv i xs σ H,⟨vs.length,by simp,Du _,h0⟩,?_⟩
 rintro i m xs σ H ⟨rfl,hi,p⟩
 have q:=ht i xs σ H p
 refine ⟨by rw [hl i xs σ H p]; exact EE hi hz,?_⟩
 by_cases hlt:i<vs.length
 ·refine .inr ⟨⟨vs,vs[i],q,by simp [hlt]⟩,λ x H' y=>?_⟩
  obtain ⟨e,y⟩:=y
  subst e
  exact hs i xs σ _ x (y vs q) p
 ·have e:i=vs.length:=by lia
  subst e
  exact .inl ⟨⟨vs,q,C8 _⟩,hd xs σ H p⟩
end
section
variable {X:Cx} {N tgs frs:List Str} {ix:List Nat} {scope:Scope} {cl:List (Str×Addr)}
theorem xp {spos py:Pos} {y:Str} {iy:Nat} {te:TE} (hN:X.N.Nodup) (hy:X.N[iy]? = some y) (hx:Loc X.env.scope y) (c:CompOk X N tgs frs ix scope cl) (hc:X.calm=true) (hi:PI X tg iter wi)
  (hg:∀ fp C s H,PG (az X N scope cl fp C s H) tg g) (he:∀ fp C s H,PE (az X N scope cl fp C s H) elt te)
  (hs:∀ x,foldedSetIterable iter X.env x=pure x:=by intro _; rfl)
  (hsw:swapsWith (.ListComp elt [⟨tg,iter,[],0⟩] scope pos) (some (.Name y py)) spos.line X.env=pure true:=by rfl)
  (hf:X.fn y=true\/X.env.scope.names.lookup y=some .local:=by first | exact .inl rfl | exact .inr rfl | assumption) :
  PS X (.Assign [.Name y py] (.ListComp elt [⟨tg,iter,[],0⟩] scope pos) spos) (t5 (qE wi g te tgs ix) (eO iy)):=by
 intro pins s σ H Dn I h
 rw [exec_Assign_Name_used _ _ _ _ hsw]
 refine wpAny_bind (wpAny_standAt (wpAny_bind ?_))
 show wpAny _ X.A (do let _ <-comprehension (.ListComp elt [⟨tg,iter,[],0⟩] scope pos) scope X.env _ (newList []) false (eval iter X.env) (some (assign (.Name y py) X.env))) _ _ s
 refine wpAny_bind (wpAny_mono (wpAny_comprehension_free (use:=some (assign (.Name y py) X.env)) (Q:=λ _ s'=>SP X pins Dn .next s') rfl hs c.clos c.kind c.names (thn (hi pins s σ H _ I h) λ xv s1 h1=>thn h1 λ itv s2 h2=>?_)) (λ _ s' hq=>wpAny_pure (wpAny_pure hq)) λ _ _ e=>e)
 obtain ⟨it,fp,tn,J,H2,rfl,I2,T,st2,f2,W,⟨m0,w0⟩,turn⟩:=h2
 have hfl:∀ b∈fp,b<s2.heap.objs.size:=λ b hb=>by
  obtain ⟨o,e,_⟩:=T.obj _ _ st2 b hb
  exact Dp e
 have hcn:∀ x a,cl.lookup x=some a->X.env.cells.lookup x=some a:=c.cls.get
 refine wpAny_newObj_type (wpAny_newFunctionEnv c.cell (by intro y hy; simp at hy) (λ h1 hns1 hsb1=>?_) c.kind)
 dsimp only at hns1 hsb1 ⊢
 generalize hH2:s2.heap.push { cls:=.type "list",dict:=none,data:=.seq ([]:List Value).toArray }=G2 at hns1 hsb1 ⊢
 have hC:G2.objs.size=s2.heap.objs.size+1:=by rw [<-hH2,GJ]
 generalize hCC:G2.objs.size=C at *
 generalize hDD:s2.heap.objs.size=D at *
 have hDC:D≠C:=by lia
 have hCle:D<=C:=by lia
 have old:∀ b o,s2.heap.get? b=some o->h1.get? b=some o:=λ b o e=>by
  have lt:b<s2.heap.objs.size:=Dp e
  exact hsb1.extBut b o (Dw (Ds (hDD▸lt) hCle)) (Dd _ (hH2▸Dd _ e))
 have hacc:h1.get? D=some (aZ [] 0):=hsb1.extBut _ _ hDC (Dd _ (hH2▸(hDD▸DB _ rfl)))
 have cellD:∀ x a,X.env.cells.lookup x=some a->a<D:=λ x a e=>by
  obtain ⟨v,q⟩:=I2.cell x a e
  exact hDD▸q.lt
 have fpc:∀ {H':Hp} {us:List Value} {k:Nat},(∀ b∈fp,H' b=none)->∀ b∈fp,pV (az X N scope cl fp C s2 H2) [(D,aZ us k)] H' b:=λ {H' us k} hn b hb=>by
  have lb:=hfl b hb
  refine ⟨hn b hb,?_,λ z=>?_,.inl hb,λ x a e z=>?_,λ p hp=>?_⟩
  ·exact Dw (Ds lb hCle)
  ·rcases Dx.mp (I2.stkSub b z) with e | e
   ·exact (f2 b hb).2.1 e
   ·exact (f2 b hb).2.2.1 e
  ·exact (f2 b hb).2.2.2.2.1 x a (hcn x a e) z
  ·have:p=(D,aZ us k):=by simpa [az] using hp
   rw [this]; exact E8 lb
 have D_fs:D∉(az X N scope cl fp C s2 H2).fs:=λ z=>by
  rcases Dx.mp (I2.stkSub D z) with e | e
  ·exact absurd I2.lt (by rw [<-e,hDD]; exact EM _)
  ·exact I2.nofs (EZ hDD) e
 have I3:=kM (tk:=s2.toks+([]:List (Str×Value)).length) (pins':=[(D,aZ [] 0)]) c I2 f2 (λ b hb=>hDD▸hfl b hb) (hDD▸hCle:s2.heap.objs.size<=C) hns1 old (λ p hp=>by
  have e:p=(D,aZ [] 0):=by simpa using hp
  subst e
  exact ⟨hacc,EZ hDD,hDC,λ v z=>by cases z⟩)
 have tn3:tn 0 h1:=T.keep _ _ _ st2 λ b _ o e=>old b o e
 have loop:codeAny (model X.prog X.w) X.A (.compLoop (.ListComp elt [⟨tg,iter,[],0⟩] scope pos) 0 (.ref it) (.ref D) (compEnvC scope cl C X.env))
   (compPost (model X.prog X.w) X.A X.xe (some (assign (.Name y py) X.env)) (λ _ s'=>SP X pins Dn .next s') (.ref D) C) { s2 with heap:=h1,toks:=s2.toks+([]:List (Str×Value)).length }:=by
  refine iC (λ n s'=>∃ i xs us k σc H',Inv (az X N scope cl fp C s2 H2) [(D,aZ us k)] σc H' s'/\tn i s'.heap/\(∀ b∈fp,H' b=none)/\Vals xs us/\W i n xs σc H') ?_ m0
   ⟨0,[],[],0,_,H2,I3,tn3,λ b hb=>(f2 b hb).1,.nil,w0⟩
  rintro n s4 ⟨i,xs,us,k,σ4,H4,I4,tn4,fr4,rv,w4⟩
  obtain ⟨hsz,tt⟩:=turn i n xs σ4 H4 w4
  rcases tt with ⟨stop,fin⟩ | ⟨go,step⟩
  ·refine thn (T.done (az X N scope cl fp C s2 H2) rfl rfl rfl hc i _ s4 σ4 H4 _ I4 (fpc fr4) tn4 stop) λ r s5 ⟨hr,I5⟩=>?_
   subst hr
   obtain ⟨m,ns,_⟩:=I5.loc
   have J1:Inv X pins σ H4 s5:=I2.call' I5.os I5.base I5.hok I5.bare λ b hb=>⟨(f2 b hb).2.2.2.1,(f2 b hb).2.1,(f2 b hb).2.2.2.2.1,(f2 b hb).2.2.2.2.2⟩
   have big:∀ a,D<=a->a≠X.env.locals/\(a∈X.ex\/X.s₀.heap.objs.size<=a)/\(∀ x y,X.env.cells.lookup x=some y->y≠a)/\∀ p∈X.pn++pins,p.1≠a:=λ a ha=>by
    obtain ⟨q0,q1,q2,q3,q4,q5⟩:=I2.fpOk (b:=a) (H':=λ _=>none) (hDD▸ha) rfl
    exact ⟨q1,q3,q4,q5⟩
   have nfs:∀ a,D<=a->a∉X.fs:=λ a ha=>I2.nofs (hDD▸ha)
   obtain ⟨b1,b2,b3,b4⟩:=big C hCle
   obtain ⟨p1,p2,p3,p4,p5⟩:=I5.pin (D,aZ us k) (by simp)
   obtain ⟨d1,d2,d3,d4⟩:=big D (C8 _)
   have J3:Inv X pins σ (upd H4 D (.lst xs)) s5:=J1.adopt p2 d1 d2 d3 d4 ⟨EN hsz,us,k,rv,p1⟩
   obtain ⟨oC,esC,epC,hoC,hdC,rC⟩:=id ns
   have hHC:(upd H4 D (.lst xs)) C=none:=by rw [af (DX hDC)]; exact I5.free
   have J4:Inv X (pins++[(C,oC)]) σ (upd H4 D (.lst xs)) s5:=J3.pins_of λ p hp=>by
    rcases DG.mp hp with z | z
    ·exact J3.pin p (Dj _ z)
    ·have e:p=(C,oC):=by simpa using z
     subst e
     exact ⟨hoC,hHC,b1,nfs C hCle,λ v z=>by rw [hdC] at z; cases z⟩
   show wpAny _ X.A (assign (.Name y py) X.env (.ref D)) _ _ s5
   refine wpAny_assign_Name (iP J4 hN hy hx (v:=.ref D) rfl (λ s6 J5=>?_) hf)
   have hC6:=(J5.pin (C,oC) (Dj _ (Dj _ (by simp)))).1
   refine ⟨m,⟨oC,esC,epC,hC6,hdC,rC⟩,λ h' sb=>?_⟩
   have J6:Inv X pins (σ.set iy (some (.ref D))) (upd H4 D (.lst xs)) s6:=J5.unpinned
   have J7:Inv X pins (σ.set iy (some (.ref D))) (upd H4 D (.lst xs)) { s6 with heap:=h' }:=J6.turned (t':=s6.toks) (λ b o hb e=>sb.extBut b o hb e) hHC b1 b2 b3 b4
   exact ⟨_,_,J7,fin D p2⟩
  ·refine thn (T.item (az X N scope cl fp C s2 H2) rfl rfl rfl hc i _ s4 σ4 H4 _ I4 (fpc fr4) tn4 go) λ r s5 ⟨u,hr,h5⟩=>?_
   subst hr
   refine thn h5 λ _ s6 ⟨x,H6,I6,r6,y6,tn6,fr6⟩=>?_
   have I6':=I6.pinned (fpc fr6) (T.obj _ _ tn6)
   refine thn (hg fp C s2 H2 _ s6 σ4 H6 x u _ I6' r6 (step x H6 y6)) λ _ s7 ⟨σ7,H7,I7,q7⟩=>?_
   refine thn (he fp C s2 H2 _ s7 σ7 H7 _ I7 q7) λ yv s8 ⟨y,H8,I8,r8,m',hm,w8⟩=>?_
   obtain ⟨p1,p2,p3,p4,p5⟩:=I8.pin (D,aZ us k) (by simp [az])
   have hsz':us.toArray.size<=sizeLine:=by simp; rw [<-rv.length]; exact EN hsz
   refine wpAny_list_append_plain (hsz:=hsz') ⟨k,p1⟩ λ h' pl sb=>?_
   have tn8:tn (i+1) s8.heap:=T.keep _ _ _ tn6 λ b hb o e=>(I8.pin (b,o) (Dj _ (Dj _ (bm hb e)))).1
   have fr8:∀ b∈fp,H8 b=none:=λ b hb=>by
    obtain ⟨o,e,d⟩:=T.obj _ _ tn6 b hb
    exact (I8.pin (b,o) (Dj _ (Dj _ (bm hb e)))).2.1
   have I9:Inv (az X N scope cl fp C s2 H2) [] σ7 H8 s8:=I8.pins_of λ p hp=>nomatch hp
   have I10:Inv (az X N scope cl fp C s2 H2) [] σ7 H8 { s8 with heap:=h' }:=I9.turned (t':=s8.toks) (it:=D) (λ b o hb e=>sb.extBut b o hb e) p2 p3 (.inr (EZ hDD))
    (λ x a e=>Dw (cellD x a (hcn x a e))) (λ p hp=>by simp [az] at hp)
   obtain ⟨k',pl⟩:=pl
   have eu:us.toArray.push yv=(us++[yv]).toArray:=by simp
   rw [eu] at pl
   have I11:Inv (az X N scope cl fp C s2 H2) [(D,aZ (us++[yv]) k')] σ7 H8 { s8 with heap:=h' }:=I10.pins_of λ p hp=>by
    have e:p=(D,aZ (us++[yv]) k'):=by simpa using hp
    subst e
    exact ⟨pl,p2,p3,p4,λ v z=>by cases z⟩
   exact ⟨m',hm,i+1,xs++[y],us++[yv],k',σ7,H8,I11,T.keep _ _ _ tn8 λ b hb o e=>sb.extBut b o (Dw (hfl b hb)) e,fr8,rv.append (.cons r8 .nil),w8⟩
 exact codeAny_compStart_list loop (T.self _ 0 _ _ _ tn3 loop)
end
section
variable {X:Cx} {N tgs frs:List Str} {ix:List Nat} {scope:Scope} {cl:List (Str×Addr)}
theorem kR {spos py:Pos} {y:Str} {te:TE} (hN:X.N.Nodup) (hy:X.N[i]? = some y) (hx:Loc X.env.scope y) (c:CompOk X N tgs frs ix scope cl) (hc:X.calm=true) (hi:QI X tg iter wi)
  (hg:∀ fp C s H,QG (az X N scope cl fp C s H) tg g) (he:∀ fp C s H,QE (az X N scope cl fp C s H) elt te)
  (hs:∀ x,foldedSetIterable iter X.env x=pure x:=by intro _; rfl)
  (hsw:swapsWith (.ListComp elt [⟨tg,iter,[],0⟩] scope pos) (some (.Name y py)) spos.line X.env=pure true:=by rfl)
  (hf:X.fn y=true\/X.env.scope.names.lookup y=some .local:=by first | exact .inl rfl | exact .inr rfl | assumption) :
  QS X (.Assign [.Name y py] (.ListComp elt [⟨tg,iter,[],0⟩] scope pos) spos) (t5 (qE wi g te tgs ix) (eO i)):=
 ⟨xp hN hy hx c hc hi.out (λ fp C s H=>(hg fp C s H).out) (λ fp C s H=>(he fp C s H).out) hs hsw hf⟩
end
section
variable {prog:Program} {w:World} {A:Around} {E:Value->Shared->Prop} {s:Shared}
theorem nR {it l:Addr} {items:Array Value} (hne:l≠it):∀ (n i:Nat) (s:Shared) (Q:List Value->Shared->Prop),s.heap.IsListIter it l i->s.heap.IsList l items->i+n<=items.size->
  (∀ h',h'.IsListIter it l (i+n)->Gr it s.heap h'->Q ((items.toList.drop i).take n) { s with heap:=h' })->wpAny (model prog w) A (draw (.ref it) n) Q E s
 | 0,i,s,Q,hit,_,_,hQ=>by
  show wpAny _ _ (pure []) Q E s
  exact wpAny_pure (by simpa using hQ s.heap hit (JX ..))
 | n+1,i,s,Q,hit,ht,hle,hQ=>by
  have hlt:i<items.size:=by lia
  show wpAny _ _ (pyNext (.ref it) >>= _) Q E s
  refine wpAny_bind (wpAny_pyNext_list_item hit ht (x:=items[i]) (by simp [hlt]) λ h1 hit1 hs1=>?_)
  refine wpAny_bind (wpAny_holding (nR hne n (i+1) _ _ hit1 (ht.extBut hs1.extBut hne) (by lia) λ h2 hit2 hs2=>wpAny_pure ?_))
  have hd:items.toList.drop i=items[i]::items.toList.drop (i+1):=by simp [EJ,hlt]
  have:=hQ h2 (by rw [show i+(n+1)=i+1+n by lia]; exact hit2) (hs1.trans hs2)
  rw [hd,GA] at this
  exact this
theorem jk {l:Addr} {Q:List Value->Shared->Prop} (hh:A.handled=none) (ht:s.heap.IsList l items)
  (hQ:∀ h',IW s.heap.objs.size s.heap h'->Q items.toList { s with heap:=h' }):wpAny (model prog w) A (unpackItems (.ref l) items.size none) Q E s:=by
 have hlt:l≠s.heap.objs.size:=by obtain ⟨o,ho,_⟩:=ht; exact Dw (Dp ho)
 unfold unpackItems
 refine wpAny_bind ?_
 ·unfold notIterableAtAll
  refine wpAny_bind (wpAny_specialOf ht.typeIs slot_list_iter.lookup ?_)
  refine wpAny_pure ?_
  simp only [Dh,if_false]
  refine wpAny_bind (wpAny_holding (wpAny_pyIter_list ht ?_))
  refine wpAny_bind (wpAny_holding (nR hlt items.size 0 _ _ ⟨_,DB _ rfl,rfl,rfl⟩ (ht.at λ o e=>Dd _ e) (by lia) λ h1 hit1 hs1=>?_))
  have hall:List.take items.size (List.drop 0 items.toList)=items.toList:=by
   rw [DZ]; exact Da (by simp)
  rw [hall]
  rw [if_neg (by simp)]
  have ht1:h1.IsList l items:=(ht.at λ o e=>Dd _ e).extBut hs1.extBut hlt
  refine wpAny_bind (wpAny_holding (wpAny_pyNext_list_end hh hit1 ht1 (by simp) λ h2 he2=>?_))
  simp only [Option.isSome_none,Dh,if_false]
  refine wpAny_pure (hQ h2 λ b o hb e=>he2 b o hb (hs1.extBut b o hb (Dd _ e)))
theorem iK {env:Env} {elts:List Expr} {x1} {t:Addr} {Q:Unit->Shared->Prop} (hh:A.handled=none) (ht:s.heap.IsList t items)
  (hn:(assignEach elts env).length=items.size) (hstar:(assignEach elts env).findIdx? (·.1)=none)
  (h:∀ h',IW s.heap.objs.size s.heap h'->wpAny (model prog w) A (assignInOrder ((assignEach elts env).map (·.2)) items.toList) Q E { s with heap:=h' }) :
  wpAny (model prog w) A (assign (.Tuple elts x1 pos) env (.ref t)) Q E s:=by
 rw [assign_Tuple]
 refine wpAny_bind (wpAny_standAt ?_)
 unfold unpack
 rw [hn,hstar]
 exact wpAny_bind (wpAny_holding (jk hh ht h))
end
section
variable {X:Cx} {pos:Pos} {u:TGs}
def zG (K:C7) (n:Nat) (t:TGs):TG:=λ v σ H Q=>∃ a xs,v=.ref a/\SqL K H a xs/\xs.length=n/\t xs σ H Q
theorem qO {K:C7} {ts:List Expr} (hc:X.calm=true) (h:QGs X ts u) (hn:(assignEach ts X.env).length=n:=by rfl) (hst:(assignEach ts X.env).findIdx? (·.1)=none:=by rfl) (hK:X.K=K:=by rfl):QG X (.Tuple ts k pos) (zG K n u):=by
 subst hK
 refine ⟨λ pins s σ H v u' Q I r hw=>?_⟩
 obtain ⟨a,xs,e1,hq,hl,hw⟩:=hw
 subst e1
 cases r
 obtain ⟨its,rv,ht,hz⟩:=I.list hq
 refine iK (I.ok.hd hc) ht.isList (by simp [hn,<-hl,rv.length]) hst λ h' hx=>?_
 have I1:Inv X pins σ H { s with heap:=h' }:=I.kept (t':=s.toks) λ b o e=>hx b o (Dw (Dp e)) e
 exact h.out pins _ σ H xs _ Q I1 (by simpa using rv) hw
end
theorem aN {α:Type} {xs:List α} {x:α} {y:α} (h:(xs++[x])[i]? = some y):(i<xs.length/\xs[i]? = some y)\/(i=xs.length/\y=x):=by
 rcases EL i xs.length with l | l | l
 ·rw [Do l] at h; exact .inl ⟨l,h⟩
 ·subst l; simp at h; exact .inr ⟨rfl,h.symm⟩
 ·rw [Ea (by simp; lia)] at h; cases h
section
variable {X:Cx} {pins:List (Addr×Obj)} {σ:St} {H:Hp} {s:Shared} {h':Heap}
theorem Inv.turnedAll (I:Inv X pins σ H s) (k:∀ b o,b∉ch->s.heap.get? b=some o->h'.get? b=some o) (hf:∀ b∈ch,pV X pins H b):Inv X pins σ H { s with heap:=h',toks:=t' }:=by
 have nit:∀ b u,H b=some u->b∉ch:=λ b u e z=>by rw [(hf b z).1] at e; cases e
 refine I.step (g':=s.gens) (d':=s.drawn) (ch:=ch) (λ b hb=>?_) (λ b o _ _ hc e _=>k b o hc e) (λ b o _ _ hc e _=>⟨o.slots,k b o hc e⟩) (λ _ _ _ _ n=>n)
  (λ b o hc e=>⟨o,k b o hc e⟩) (λ _ _ e=>e) (λ _ _ _ e=>e) (λ b ps e=>⟨#[],by rw [e]; simp⟩) (λ m hm=>?_) (λ b u e=>?_) I.bare
 ·obtain ⟨_,f1,_,f3,f4,f5⟩:=hf b hb
  exact ⟨f3,f1,f4,f5⟩
 ·obtain ⟨o,es,ep,q,r⟩:=hm
  exact ⟨o,es,ep,k _ o (λ z=>(hf _ z).2.1 rfl) q,r⟩
 ·refine (I.hok b u e).stay (λ c v hc q=>k c v ?_ q) (λ _ q=>q) λ _ _ q=>q
  rcases hc with z | z
  ·rw [z]; exact nit b u e
  ·exact nit c _ z
end
section
variable {X:Cx}
end
section
variable {K:C7} {H:Hp} {Q:VK}
end
section
variable {prog:Program} {w:World} {A:Around} {E:Value->Shared->Prop} {s:Shared}
end
def BE (K:C7) (a:Addr):It:=
 ⟨λ i H=>∃ xs x,SqL K H a xs/\xs[i]? = some x,λ i H v H'=>∃ p x,v=.ref p/\H p=none/\H'=upd H p (.tup [.int i,x])/\∀ xs,SqL K H a xs->xs[i]? = some x,λ i H=>∃ xs,SqL K H a xs/\xs.length=i⟩
theorem jl {b:Addr} {o u:Obj} {x y:String} (e1:h.get? a=some o) (c1:o.cls=.type x) (e2:h.get? b=some u) (c2:u.cls=.type y) (hn:x≠y):a≠b:=λ z=>by
 subst z
 rw [e1] at e2
 cases e2
 rw [c1] at c2
 exact hn (by injection c2)
theorem Inv.pair {H:Hp} {s:Shared} {g:Heap} {v:Value} {x:V} (I:Inv X pins σ H s) (k:∀ b o,b∉ch->s.heap.get? b=some o->g.get? b=some o) (hf:∀ b∈ch,pV X pins H b)
  (hg:g.get? s.heap.objs.size=some { cls:=.type "tuple",data:=.seq #[u,v] }) (rx:RelV x u) (ry:RelV y v):Inv X pins σ (upd H s.heap.objs.size (.tup [x,y])) { s with heap:=g,toks:=tk }/\H s.heap.objs.size=none:=by
 have I1:Inv X pins σ H { s with heap:=g,toks:=tk }:=I.turnedAll k hf
 have hn:H s.heap.objs.size=none:=I.hok.fresh (C8 _)
 obtain ⟨_,f1,f2,f3,f4,f5⟩:=I.fpOk (C8 _) hn
 refine ⟨I1.adopt hn f1 f3 f4 f5 ?_,hn⟩
 exact ⟨by show 2<=sizeLine; decide,[u,v],.cons rx (.cons ry .nil),⟨_,hg,rfl,_,rfl⟩⟩
theorem pf {w:World} {K:C7} {elts:List Expr} (a e it:Addr) (hei:e≠it):Turn P w K (.Tuple elts k pos) (BE K a) [e,it] e (λ i h=>(∃ old,IsEnum h e it i old)/\h.IsListIter it a i) where
 mem:=by simp
 obj:=λ i h st b hb=>by
  obtain ⟨⟨old,q⟩,o,q1,q2,q3⟩:=st
  simp only [Dx,Ed,or_false] at hb
  rcases hb with rfl | rfl
  ·exact ⟨_,q,λ v z=>by cases z⟩
  ·exact ⟨o,q1,λ v z=>by rw [q3] at z; cases z⟩
 keep:=λ i h h' st kk=>by
  obtain ⟨⟨old,q⟩,o,q1,q2⟩:=st
  exact ⟨⟨old,kk e (by simp) _ q⟩,o,kk it (by simp) o q1,q2⟩
 item:=by
  intro X hP hw hK hc i pins s σ H E I hf st hg
  subst hP hw hK
  obtain ⟨xs,x,hq,hx⟩:=hg
  obtain ⟨its,rv,p,hz⟩:=I.list hq
  obtain ⟨u,hu,ru⟩:=rv.get hx
  have hl:=rv.length
  have hil:i<its.toArray.size:=by have:=(DQ.mp hu).1; simpa using this
  obtain ⟨⟨old,q⟩,q2⟩:=st
  have hne:a≠it:=by
   obtain ⟨o1,g1,g2,_⟩:=p.isList
   obtain ⟨o2,g3,g4,_⟩:=q2
   exact jl g1 g2 g3 g4 (by decide)
  have hea:e≠a:=by
   obtain ⟨o1,g1,g2,_⟩:=p.isList
   exact jl q rfl g1 g2 (by decide)
  refine wpAny_pyNext_enum_itemD (Me (A:=X.A.in1) (I.ok.hd hc) it a hne its.toArray) q ⟨q2,p.isList⟩ hil hei (by simp [hei,hea]) λ y h' tk hP ho hs' hT hsz hk=>⟨_,rfl,wpAny_letOwnedTupleGo_enum ho λ g he' sb=>?_⟩
  have ey:y=u:=by
   have h1:its.toArray[i]? = some u:=by simpa using hu
   exact D7 (hP.symm.trans h1)
  subst ey
  have hTe:s.heap.objs.size≠e:=E8 (Dp q)
  have lt2:it<s.heap.objs.size:=by obtain ⟨o2,g3,_⟩:=q2; exact Dp g3
  obtain ⟨I2,hn⟩:=I.pair (g:=g) (tk:=tk+1) (ch:=[e,it]) (x:=.int i) (y:=x) (λ b o hb r=>(sb.2 b (λ z=>hb (by simp [z]))).trans (hk b o (λ z=>hb (by simp [z])) (λ z=>hb (by simp [z])) r)) hf ((sb.2 _ hTe).trans hT) ⟨tk,rfl⟩ ru
  refine ⟨.ref s.heap.objs.size,_,I2,rfl,⟨_,x,rfl,hn,rfl,λ ys hy=>by rw [I.list_inj hy hq]; exact hx⟩,⟨⟨_,by simpa using he'⟩,hs'.1.at λ o r=>(sb.2 it hei.symm).trans r⟩,λ b hb=>?_⟩
  simp only [Dx,Ed,or_false] at hb
  rcases hb with rfl | rfl
  ·rw [af hTe.symm]; exact (hf _ (by simp)).1
  ·rw [af (Dw lt2)]; exact (hf _ (by simp)).1
 done:=by
  intro X hP hw hK hc i pins s σ H E I hf st hg
  subst hP hw hK
  obtain ⟨xs,hq,hx⟩:=hg
  obtain ⟨its,rv,p,hz⟩:=I.list hq
  obtain ⟨⟨old,q⟩,q2⟩:=st
  have hl:=rv.length
  have hne:a≠it:=by
   obtain ⟨o1,g1,g2,_⟩:=p.isList
   obtain ⟨o2,g3,g4,_⟩:=q2
   exact jl g1 g2 g3 g4 (by decide)
  have hi:its.toArray.size=i:=by simp; lia
  subst hi
  refine wpAny_pyNext_enum_endD (Me (A:=X.A.in1) (I.ok.hd hc) it a hne its.toArray) q ⟨q2,p.isList⟩ λ h' eb=>⟨rfl,I.turnedAll (t':=s.toks) (ch:=[it]) (λ b o hb r=>eb b o (λ z=>hb (by simp [z])) r) λ b hb=>hf b (by simp at hb; simp [hb])⟩
 self:=λ _ _ _ _ _ st h=>by
  obtain ⟨⟨old,q⟩,_⟩:=st
  exact wpAny_pyIter_enum q h
def Itz (K:C7) (a b:Addr):It:=
 ⟨λ i H=>∃ xs ys x y,SqL K H a xs/\SqL K H b ys/\xs[i]? = some x/\ys[i]? = some y,λ i H v H'=>∃ p x y,v=.ref p/\H p=none/\H'=upd H p (.tup [x,y])/\(∀ xs,SqL K H a xs->xs[i]? = some x)/\∀ ys,SqL K H b ys->ys[i]? = some y,λ i H=>∃ xs ys,SqL K H a xs/\SqL K H b ys/\(xs.length<=i\/ys.length<=i)⟩
theorem uB {w:World} {K:C7} {elts:List Expr} (a b z TI TO i1 i2:Addr) (D:ZipApart z TI TO i1 i2 a b) :
  Turn P w K (.Tuple elts k pos) (Itz K a b) [z,TI,TO,i1,i2] z (λ i h=>IsZip h z TI TO .none/\IsPair h TI (.ref i1) (.ref i2)/\(∃ u v,IsPair h TO u v)/\h.IsListIter i1 a i/\h.IsListIter i2 b i) where
 mem:=by simp
 obj:=λ i h st c hb=>by
  obtain ⟨q1,q2,⟨u,v,q3⟩,⟨o4,q4,_,d4⟩,⟨o5,q5,_,d5⟩⟩:=st
  simp only [Dx,Ed,or_false] at hb
  rcases hb with rfl | rfl | rfl | rfl | rfl
  ·exact ⟨_,q1,λ v z=>by cases z⟩
  ·exact ⟨_,q2,λ v z=>by cases z⟩
  ·exact ⟨_,q3,λ v z=>by cases z⟩
  ·exact ⟨o4,q4,λ v z=>by rw [d4] at z; cases z⟩
  ·exact ⟨o5,q5,λ v z=>by rw [d5] at z; cases z⟩
 keep:=λ i h h' st kk=>by
  obtain ⟨q1,q2,⟨u,v,q3⟩,⟨o4,q4,r4⟩,⟨o5,q5,r5⟩⟩:=st
  exact ⟨kk z (by simp) _ q1,kk TI (by simp) _ q2,⟨u,v,kk TO (by simp) _ q3⟩,⟨o4,kk i1 (by simp) _ q4,r4⟩,⟨o5,kk i2 (by simp) _ q5,r5⟩⟩
 item:=by
  intro X hP hw hK hc i pins s σ H E I hf st hg
  subst hP hw hK
  obtain ⟨xs,ys,x,y,hqx,hqy,hx,hy⟩:=hg
  obtain ⟨its,rv,p,hz⟩:=I.list hqx
  obtain ⟨jts,rw',p',hz'⟩:=I.list hqy
  obtain ⟨u,hu,ru⟩:=rv.get hx
  obtain ⟨v,hv,rv'⟩:=rw'.get hy
  obtain ⟨q1,q2,⟨u3,v3,q3⟩,q4,q5⟩:=st
  have l1:=Dp q1
  have l2:=Dp q2
  have l3:=Dp q3
  have l4:i1<s.heap.objs.size:=by obtain ⟨o,g,_⟩:=q4; exact Dp g
  have l5:i2<s.heap.objs.size:=by obtain ⟨o,g,_⟩:=q5; exact Dp g
  refine wpAny_pyNext_zip_item D q1 q2 q3 q4 q5 p.isList p'.isList (x:=u) (y:=v) (by simpa using hu) (by simpa using hv) λ h' a1 a2 a3 a4 a5 a6 a7=>⟨_,rfl,wpAny_letOwnedTupleGo_zip a1 λ g hz2 sb=>?_⟩
  obtain ⟨I2,hn⟩:=I.pair (g:=g) (tk:=s.toks) (ch:=[z,TO,i1,i2]) (x:=x) (y:=y) (λ c o hb r=>(sb.2 c (λ e=>hb (by simp [e]))).trans (a7 c o (λ e=>hb (by simp [e])) (λ e=>hb (by simp [e])) (λ e=>hb (by simp [e])) (λ e=>hb (by simp [e])) r)) (λ c hb=>hf c (by simp at hb; rcases hb with e | e | e | e<;>simp [e])) ((sb.2 _ (E8 l1)).trans a5) ru rv'
  refine ⟨.ref s.heap.objs.size,_,I2,rfl,⟨_,x,y,rfl,hn,rfl,λ zs h=>by rw [I.list_inj h hqx]; exact hx,λ zs h=>by rw [I.list_inj h hqy]; exact hy⟩,⟨hz2,?_,⟨_,_,(sb.2 _ D.TOz).trans a2⟩,a3.at λ o r=>(sb.2 i1 D.i1z).trans r,a4.at λ o r=>(sb.2 i2 D.i2z).trans r⟩,λ c hb=>?_⟩
  ·exact (sb.2 _ D.TIz).trans (a7 TI _ D.TIz D.TITO D.TIi1 D.TIi2 q2)
  ·have hc0:=(hf c hb).1
   simp only [Dx,Ed,or_false] at hb
   have:c<s.heap.objs.size:=by rcases hb with rfl | rfl | rfl | rfl | rfl<;>assumption
   rw [af (Dw this)]; exact hc0
 done:=by
  intro X hP hw hK hc i pins s σ H E I hf st hg
  subst hP hw hK
  obtain ⟨xs,ys,hqx,hqy,hx⟩:=hg
  obtain ⟨its,rv,p,hz⟩:=I.list hqx
  obtain ⟨jts,rw',p',hz'⟩:=I.list hqy
  have m1:=rv.length
  have m2:=rw'.length
  obtain ⟨q1,q2,⟨u3,v3,q3⟩,q4,q5⟩:=st
  refine wpAny_pyNext_zip_end (I.ok.hd hc) D q1 q2 q3 q4 q5 p.isList p'.isList ?_ λ h' kk=>⟨rfl,I.turnedAll (t':=s.toks) (ch:=[z,TO,i1,i2]) (λ c o hb r=>kk c o (λ e=>hb (by simp [e])) (λ e=>hb (by simp [e])) (λ e=>hb (by simp [e])) (λ e=>hb (by simp [e])) r) (λ c hb=>hf c (by simp at hb; rcases hb with e | e | e | e<;>simp [e]))⟩
  rcases hx with h | h
  ·exact .inl (by simp; lia)
  ·exact .inr (by simp; lia)
 self:=λ _ _ _ _ _ st h=>wpAny_pyIter_zip st.1 h
section
variable {X:Cx} {a b:Expr} {t:TA} {p pos tpos:Pos} {ts:List Expr} {k:Nat}
def vA (K:C7) (t:TA):TI:=λ σ H R=>t σ H λ vs H1=>∃ a,vs=[.ref a]/\(∃ xs,SqL K H1 a xs)/\R (BE K a) H1
def Ck (K:C7) (t:TA):TI:=λ σ H R=>t σ H λ vs H1=>∃ a b,vs=[.ref a,.ref b]/\(∃ xs,SqL K H1 a xs)/\(∃ ys,SqL K H1 b ys)/\R (Itz K a b) H1
theorem jm {K:C7} (hg:Gl X "enumerate") (hm:X.mg "enumerate" = none) (ha:QA X [a] t) (hn:cI a=true:=by rfl) (hK:X.K=K:=by rfl):QI X (.Tuple ts k tpos) (.Call (.Name "enumerate" p) [a] [] pos) (vA K t):=by
 subst hK
 refine ⟨λ pins s σ H R I h=>?_⟩
 refine Call_ (eJ I hg hm (by decide +kernel:bootBuiltins "enumerate" = some (.type "enumerate")) (Et (thn (ha.out pos pins s σ H _ I h) λ us s1 ⟨vs,H1,I1,r1,q1⟩=>?_) (aP hn) rfl))
 obtain ⟨l,e,⟨xs,hq⟩,q⟩:=q1
 subst e
 cases r1 with
 | cons r rr=>
  cases rr
  cases r
  obtain ⟨its,rv,pl,hz⟩:=I1.list hq
  refine call_enumerate_list pl.isList λ g h1 h2 h3 h4=>wpAny_pyIter_enum h1 ?_
  have I2:Inv X pins σ H1 { s1 with heap:=g }:=I1.kept (t':=s1.toks) h4
  refine ⟨s1.heap.objs.size+1,[s1.heap.objs.size+1,s1.heap.objs.size],_,_,H1,rfl,I2,pf l _ _ (Ko _),⟨⟨_,h1⟩,h2⟩,λ c hc=>?_,q⟩
  have hle:s1.heap.objs.size<=c:=by
   simp only [Dx,Ed,or_false] at hc
   rcases hc with rfl | rfl
   ·exact FO _
   ·exact C8 _
  exact I1.fpOk hle (I1.hok.fresh hle)
theorem vB {K:C7} (hg:Gl X "zip") (hm:X.mg "zip" = none) (ha:QA X [a,b] t) (hn:cI a=true:=by rfl) (hn2:cI b=true:=by rfl) (hK:X.K=K:=by rfl):QI X (.Tuple ts k tpos) (.Call (.Name "zip" p) [a,b] [] pos) (Ck K t):=by
 subst hK
 refine ⟨λ pins s σ H R I h=>?_⟩
 have e2:starEach [b] X.env=[(false,eval b X.env)]:=aP hn2
 refine Call_ (eJ I hg hm (by decide +kernel:bootBuiltins "zip" = some (.type "zip")) (Et (thn (ha.out pos pins s σ H _ I h) λ us s1 ⟨vs,H1,I1,r1,q1⟩=>?_) (aP hn) (by rw [e2]; rfl)))
 obtain ⟨l,m,e,⟨xs,hq⟩,⟨ys,hq'⟩,q⟩:=q1
 subst e
 cases r1 with
 | cons r rr=>
  cases rr with
  | cons r' rr=>
   cases rr
   cases r; cases r'
   obtain ⟨its,rv,pl,hz⟩:=I1.list hq
   obtain ⟨jts,rw',pl',hz'⟩:=I1.list hq'
   have a1:l<s1.heap.objs.size:=by obtain ⟨o,g,_⟩:=pl.isList; exact Dp g
   have a2:m<s1.heap.objs.size:=by obtain ⟨o,g,_⟩:=pl'.isList; exact Dp g
   refine call_zip_2 pl.isList pl'.isList λ g h1 h2 h3 h4 h5 h6 h7=>wpAny_pyIter_zip h1 ?_
   have I2:Inv X pins σ H1 { s1 with heap:=g }:=I1.kept (t':=s1.toks) h7
   refine ⟨_,_,_,_,H1,rfl,I2,uB l m _ _ _ _ _ (zipApart_new a1 a2),⟨h1,h2,⟨_,_,h3⟩,h4,h5⟩,λ c hc=>?_,q⟩
   have hle:s1.heap.objs.size<=c:=by
    simp only [Dx,Ed,or_false] at hc
    rcases hc with rfl | rfl | rfl | rfl | rfl
    ·exact Gy _ _
    ·exact Gy _ _
    ·exact Gy _ _
    ·exact C8 _
    ·exact Gy _ _
   exact I1.fpOk hle (I1.hok.fresh hle)
end
section
variable {K:C7} {σ:St} {H:Hp} {Q:VK} {D:Ends} {g:TG} {te:TE} {tb:TS}
theorem AF {R:It->Hp->Prop} (h:t σ H λ vs H1=>∃ a,vs=[.ref a]/\(∃ xs,SqL K H1 a xs)/\R (BE K a) H1):vA K t σ H R:=h
theorem Cl {R:It->Hp->Prop} (h:t σ H λ vs H1=>∃ a b,vs=[.ref a,.ref b]/\(∃ xs,SqL K H1 a xs)/\(∃ ys,SqL K H1 b ys)/\R (Itz K a b) H1):Ck K t σ H R:=h
theorem qP {J:It} (Pv:Nat->St->Hp->Prop) (h0:Pv 0 σ H) (hgo:∀ i σ H,i<n->Pv i σ H->J.go i H) (hst:∀ σ H,Pv n σ H->J.stop n H)
  (hs:∀ i x σ H H',i<n->Pv i σ H->J.yld i H x H'->g x σ H' λ σ2 H2=>tb { D with nx:=Pv (i+1),ct:=Pv (i+1),bk:=D.nx } σ2 H2) (hd:∀ σ H,Pv n σ H->D.nx σ H) :
  ∃ W:Nat->Nat->St->Hp->Prop,(∃ m,W 0 m σ H)/\∀ i m σ H,W i m σ H->
   (J.stop i H/\D.nx σ H)\/(J.go i H/\∃ N:St->Hp->Prop,(∀ σ' H',N σ' H'->∃ m',m'<m/\W (i+1) m' σ' H')/\∀ x H',J.yld i H x H'->g x σ H' λ σ2 H2=>tb { D with nx:=N,ct:=N,bk:=D.nx } σ2 H2):=by
 refine ⟨λ i m σ H=>m=n - i/\i<=n/\Pv i σ H,⟨n,by simp,Du _,h0⟩,?_⟩
 rintro i m σ H ⟨rfl,hi,p⟩
 by_cases hlt:i<n
 ·exact .inr ⟨hgo i σ H hlt p,Pv (i+1),λ σ' H' p'=>⟨n - (i+1),by lia,rfl,hlt,p'⟩,λ x H' y=>hs i x σ H H' hlt p y⟩
 ·have e:i=n:=by lia
  subst e
  exact .inl ⟨hst σ H p,hd σ H p⟩
theorem iS {J:It} {σ0:St} {R:List V->Hp->Prop} (Pv:Nat->List V->St->Hp->Prop) (hz:n<sizeLine) (hl:∀ i ys σ H,Pv i ys σ H->ys.length=i) (h0:Pv 0 [] σ0 H) (hgo:∀ i ys σ H,i<n->Pv i ys σ H->J.go i H) (hst:∀ ys σ H,Pv n ys σ H->J.stop n H)
  (hs:∀ i x ys σ H H',i<n->Pv i ys σ H->J.yld i H x H'->g x σ H' λ σ2 H2=>te σ2 H2 λ y H3=>Nx n i (Pv (i+1) (ys++[y]) σ2 H3)) (hd:∀ ys σ H,Pv n ys σ H->R ys H) :
  ∃ W:Nat->Nat->List V->St->Hp->Prop,(∃ m,W 0 m [] σ0 H)/\∀ i m xs σc H,W i m xs σc H->xs.length<sizeLine/\
  ((J.stop i H/\R xs H)\/(J.go i H/\∀ x H',J.yld i H x H'->g x σc H' λ σ2 H2=>te σ2 H2 λ y H3=>∃ m',m'<m/\W (i+1) m' (xs++[y]) σ2 H3)):=by
 refine ⟨λ i m xs σ H=>m=n - i/\i<=n/\Pv i xs σ H,⟨n,by simp,Du _,h0⟩,?_⟩
 rintro i m xs σ H ⟨rfl,hi,p⟩
 refine ⟨by rw [hl i xs σ H p]; exact EE hi hz,?_⟩
 by_cases hlt:i<n
 ·exact .inr ⟨hgo i xs σ H hlt p,λ x H' y=>hs i x xs σ H H' hlt p y⟩
 ·have e:i=n:=by lia
  subst e
  exact .inl ⟨hst xs σ H p,hd xs σ H p⟩
end
section
variable {K:C7} {σ:St} {H:Hp} {Q:VK} {D:Ends}
theorem Cm {R:Bool->Hp->Prop} (h:ta σ H λ x H'=>∃ k,yq K x H' k/\R k H'):Ch K ta σ H R:=h
theorem CS {r:V->Option Int->Option Int->Hp->VK->Prop} {te:TE} {tl th:TO} (h:te σ H λ x H1=>tl σ H1 λ l H2=>th σ H2 λ u H3=>r x l u H3 Q):tSl r te tl th σ H Q:=h
theorem BF {t:TE} {R:Option Int->Hp->Prop} (h:t σ H λ x H1=>∃ i,x=.int i/\R (some i) H1):wT t σ H R:=h
theorem zH {R:Option Int->Hp->Prop} (h:R none H):mS σ H R:=h
theorem bT {p:Addr} {x:V} {R:St->Hp->Prop} (e:H p=some (.tup [x,y])) (h:R ((σ.set i (some x)).set j (some y)) H):AA K 2 (iJ (eO i) (iJ (eO j) yN)) (.ref p) σ H R:=
 ⟨p,_,rfl,MR e,rfl,_,_,rfl,_,_,rfl,rfl,h⟩
theorem Cn {p:Addr} (h:SqL K H p xs):yq K (.ref p) H (!xs.isEmpty):=.inl ⟨xs,h,rfl⟩
theorem CT {p:Addr} (h:SqT K H p xs):yq K (.ref p) H (!xs.isEmpty):=.inr (.inl ⟨xs,h,rfl⟩)
theorem BG {α:Type} {G:Prop} {S B:α->Hp->Prop} (hA:(∀ a H,S a H->B a H)->G) (hB:∀ a H,S a H->B a H):G:=hA hB
theorem aQ {α:Type} {f:α->V} {xs:List α} {x:V} (h:(xs.map f)[i]? = some x):∃ z,x=f z/\xs[i]? = some z/\z∈xs/\i<xs.length:=by
 rw [De] at h
 cases e:xs[i]? with
 | none=>rw [e] at h; cases h
 | some z=>rw [e] at h; exact ⟨z,(D7 h).symm,rfl,Ek e,(DQ.mp e).1⟩
end
section
variable {X:Cx} {e:Expr} {te:TE} {g:TG} {pos tpos:Pos} {ts:List Expr} {k:Nat}
theorem jn (he:QE X e te) (hg:QG X (.Tuple ts k tpos) g) (hs:swapsWithSole [.Tuple ts k tpos] e pos.line X.env=pure false:=by rfl) (hw:swappedStores [.Tuple ts k tpos] e X.env=pure none:=by rfl)
  (h1:(assignEach [.Tuple ts k tpos] X.env).map (·.2)=[assign (.Tuple ts k tpos) X.env]:=by rfl):QS X (.Assign [.Tuple ts k tpos] e pos) (t5 te g):=⟨p6 he.out hg.out hs hw h1⟩
end
section
variable {K:C7} {σ:St} {H:Hp}
end
theorem ci {i:Int} (e:i=j) (h:j<n):ixN n i=some j:=by
 subst e
 unfold ixN
 rw [if_pos (by lia),if_pos (by lia)]
 simp
theorem qQ:∀ {xs:List V} {us:List Value},xs.length=us.length->(∀ (i:Nat) x u,xs[i]? = some x->us[i]? = some u->RelV x u)->Vals xs us
 | [],[],_,_=>.nil
 | [],_::_,h,_=>by simp at h
 | _::_,[],h,_=>by simp at h
 | x::xs,u::us,h,r=>.cons (r 0 x u rfl rfl) (qQ (by simpa using h) λ i y v a b=>r (i+1) y v (by simpa using a) (by simpa using b))
section
variable {X:Cx} {a b e o:Expr} {es:List Expr} {t:TA} {te to tb:TE} {p p2 pos pos2 apos cpos tpos:Pos}
noncomputable def jW (lo n:Nat):List V:=(C9 n).map λ i=>MS ((lo+i:Nat):Int)
def vC (t:TA):TE:=λ σ H Q=>t σ H λ vs H1=>∃ j:Nat,vs=[.int j]/\j<=1000/\∀ l,H1 l=none->Q (.ref l) (upd H1 l (.lst (jW 0 j)))
theorem CU {H:Hp} {s:Shared} {Q:VK} {t u v:Tok} (hc:X.calm=true) (I:Inv X pins σ H s) (h1:i<=1000) (h2:j<=1000) (h3:i<=j) (q:∀ l,H l=none->Q (.ref l) (upd H l (.lst (jW i (j - i))))) :
  wpAny (model X.prog X.w) X.A (call (.type "list") [.ref s.heap.objs.size]) (EP X pins σ Q) X.xe { s with heap:=s.heap.push { cls:=.type "range",data:=.fields #[.int i t,.int j u,.int 1 v] },toks:=tk }:=by
 have I1:Inv X pins σ H { s with heap:=s.heap.push { cls:=.type "range",data:=.fields #[.int i t,.int j u,.int 1 v] },toks:=tk }:=I.kept λ b o e=>Dd _ e
 refine call_list_range (n:=j - i) (I.ok.hd hc) (Kd ..) (small_one (by lia) (by lia) (by lia) (by lia)) (by rw [rangeSize_one]; split<;>lia) (by lia) λ h' tk' acc' c' hk hg hi=>?_
 obtain ⟨hz,hit⟩:=hi
 refine ⟨.ref _,_,I1.laid (t':=tk') (o:=.lst (jW i (j - i))) hk (C8 _) ?_,rfl,q _ (I1.hok.fresh (C8 _))⟩
 refine ⟨by simp only [jW,C6,DR]; exact aL (by lia),acc'.toList,c',?_,?_⟩
 ·refine qQ (by simp [jW,hz]) λ k x w a b=>?_
  have hk':k<j - i:=by have:=(DQ.mp a).1; simpa [jW] using this
  unfold jW at a
  rw [De,Eg hk'] at a
  obtain rfl:=D7 a
  obtain ⟨tt,rfl⟩:=hit k w (by simpa using b)
  refine ⟨tt,?_⟩
  rw [L4,Int.natCast_add]
 ·simpa using hg
theorem uC (hc:X.calm=true) (hgl:Gl X "list") (hml:X.mg "list" = none) (hgr:Gl X "range") (hmr:X.mg "range" = none) (ha:QA X [a] t) (hn:cI a=true:=by rfl):QE X (.Call (.Name "list" p) [.Call (.Name "range" p2) [a] [] pos2] [] pos) (vC t):=by
 refine ⟨λ pins s σ H Q I h=>?_⟩
 refine Call_ (eJ I hgl hml (by decide +kernel:bootBuiltins "list" = some (.type "list")) (Et ?_ (aP rfl) rfl))
 refine Ho (Call_ (eJ I hgr hmr boot_range (Et (thn (ha.out pos2 pins s σ H _ I h) λ us s1 ⟨vs,H1,I1,r1,q1⟩=>?_) (aP hn) rfl)))
 obtain ⟨j,e,q1,q⟩:=q1
 subst e
 cases r1 with
 | cons r rr=>
  cases rr
  obtain ⟨tt,rfl⟩:=r
  exact call_range_1 (Ih (CU (i:=0) hc I1 (by lia) q1 (by lia) q))
def Co:R2:=λ x y H Q=>y=.non/\Q (.bl (decide (x=.non))) H
theorem uD:QOp X (compareOp .Is) Co:=⟨y8⟩
end
section
variable {K:C7} {σ:St} {H:Hp} {Q:VK}
theorem AG (h:t σ H λ vs H1=>∃ j:Nat,vs=[.int j]/\j<=1000/\∀ l,H1 l=none->Q (.ref l) (upd H1 l (.lst (jW 0 j)))):vC t σ H Q:=h
theorem BH {x:V} (h:Q (.bl (decide (x=.non))) H):Co x .non H Q:=⟨rfl,h⟩
end
def Tp2 (H:Hp) (p:Addr):Prop:=∃ a b:Int,H p=some (.lst [.int a,.int b])/\0<=a/\0<=b
structure St2 (p:Addr) (H H':Hp):Prop where
 keep:∀ q o,H q=some o->q≠p->H' q=some o
 tape:Tp2 H' p
section
variable {H H1 H2:Hp} {p q l:Addr} {o:HO}
theorem St2.refl (t:Tp2 H p):St2 p H H:=⟨λ _ _ h _=>h,t⟩
theorem St2.trans (a:St2 p H H1) (b:St2 p H1 H2):St2 p H H2:=⟨λ q o h n=>b.keep q o (a.keep q o h n) n,b.tape⟩
theorem Tp2.mk {a b:Int} (h:0<=a) (h2:0<=b):St2 p H (upd H p (.lst [.int a,.int b])):=⟨λ q o e n=>by rw [af n]; exact e,⟨a,b,ab,h,h2⟩⟩
theorem Tp2.ne (t:Tp2 H p) (h:H q=none):q≠p:=by
 obtain ⟨a,b,e,_⟩:=t
 exact λ z=>ae e h z.symm
theorem Tp2.same (t:Tp2 H p) (s:Same H H1):Tp2 H1 p:=by
 obtain ⟨a,b,e,n⟩:=t
 exact ⟨a,b,s _ _ e,n⟩
theorem Tp2.own (t:Tp2 H p) (n:l≠p):Tp2 (upd H l o) p:=by
 obtain ⟨a,b,e,q⟩:=t
 exact ⟨a,b,by rw [af (DX n)]; exact e,q⟩
theorem St2.new (a:St2 p H H1) (h:H1 q=none):St2 p H (upd H1 q o):=⟨λ b u e1 e2=>by rw [af (ae (a.keep b u e1 e2) h)]; exact a.keep b u e1 e2,a.tape.own (a.tape.ne h)⟩
theorem St2.own (a:St2 p H H1) (h:H l=none) (n:l≠p):St2 p H (upd H1 l o):=⟨λ b u e1 e2=>by rw [af (ae e1 h)]; exact a.keep b u e1 e2,a.tape.own n⟩
theorem St2.free (s:St2 p H H1) (h:H1 q=none):H q=none:=by
 cases e:H q with
 | none=>rfl
 | some o=>
  have:=s.keep q o e (s.tape.ne h)
  rw [h] at this; cases this
end
def xq (K:C7):Sp:=λ vs H Q _=>∃ (a:Addr) (ns:List Int) (k:Int),vs=[.ref a,.int k]/\SqL K H a (ns.map MS)/\0<=k/\∀ p H',H p=none->Same H H'->Tp2 H' p->Q (.ref p) H'
def xr:Sp:=λ vs H Q _=>∃ (p:Addr) (m:Int),vs=[.ref p,.int m]/\Tp2 H p/\0<m/\m<2 ^ 64/\∀ (r:Nat) H',(r:Int)<m->St2 p H H'->Q (.int r) H'
noncomputable def NV (os:List Nat):List V:=os.map λ o:Nat=>MS o
theorem ax (os:List Nat):(NV os).length=os.length:=by simp [NV]
theorem qR (os:List Nat):NV os=(os.map λ o:Nat=>(o:Int)).map MS:=by rw [NV,EB]; rfl
theorem cL {os:List Nat} {o:Nat} (h:os[i]? = some o):(NV os)[i]? = some (MS o):=by rw [NV,De,h]; rfl
theorem jX {os:List Nat} {o:Nat} {k:Int} (e:k=i) (h:os[i]? = some o):atI (NV os) k=some (MS o):=by rw [e]; exact aO (cL h)
theorem cM (os:List Nat) (o:Nat):NV os++[MS o]=NV (os++[o]):=by simp [NV]
theorem uE (lo n:Nat):jW lo n=NV ((C9 n).map λ i=>lo+i):=by simp [jW,NV]
def LsAt (H:Hp) (ps:List Addr) (nss:List (List Nat)):Prop:=ps.length=nss.length/\∀ (i:Nat) p ns,ps[i]? = some p->nss[i]? = some ns->H p=some (.lst (NV ns))
section
variable {H H1:Hp} {ps:List Addr} {nss:List (List Nat)}
theorem LsAt.same (h:LsAt H ps nss) (e:Same H H1):LsAt H1 ps nss:=⟨h.1,λ i p z a c=>e _ _ (h.2 i p z a c)⟩
theorem LsAt.snoc {p:Addr} {ns:List Nat} (h:LsAt H ps nss) (e:H p=some (.lst (NV ns))):LsAt H (ps++[p]) (nss++[ns]):=by
 refine ⟨by simp [h.1],λ i q y a c=>?_⟩
 rcases aN a with ⟨l,a⟩ | ⟨l,a⟩
 ·rcases aN c with ⟨_,c⟩ | ⟨l',c⟩
  ·exact h.2 i q y a c
  ·have:=h.1; lia
 ·rcases aN c with ⟨l',c⟩ | ⟨_,c⟩
  ·have:=h.1; lia
  ·rw [a,c]; exact e
end
noncomputable def AH (os:List Nat):Nat->List Bool->Nat->List Nat×List Bool
 | 0,met,_=>([],met)
 | f+1,met,pl=>if met.getD pl true=true then ([],met) else (pl::(AH os f (met.set pl true) (os.getD pl 0)).1,(AH os f (met.set pl true) (os.getD pl 0)).2)
theorem fy (os:List Nat) (i o:Nat):(NV os).set i (MS o)=NV (os.set i o):=by simp [NV,List.map_set]
theorem zI (xs ys:List Nat):NV xs++NV ys=NV (xs++ys):=by simp [NV]
section
variable {X:Cx} {e:Expr} {te:TE} {pos p1 p2 p3 p4 p5:Pos} {j j':Nat}
end
structure Ord (os:List Nat) (n:Nat):Prop where
 len:os.length=n
 lt:∀ x∈os,x<n
 inj:∀ (i j r:Nat),os[i]? = some r->os[j]? = some r->i=j
 sur:∀ x,x<n->∃ i,i<n/\os[i]? = some x
theorem Ord.get {os:List Nat} (h:Ord os n) (hi:i<n):∃ r,os[i]? = some r/\r<n:=by
 have hl:i<os.length:=by rw [h.len]; exact hi
 exact ⟨os[i],by simp [hl],h.lt _ (Dl hl)⟩
noncomputable def cmp (one other:List Nat):List Nat:=other.map λ j=>one.getD j 0
theorem qS {one other:List Nat} {r:Nat} (h1:other[i]? = some j) (h2:one[j]? = some r):(cmp one other)[i]? = some r:=by
 unfold cmp
 rw [De,h1]
 show some (one.getD j 0)=some r
 rw [C5,h2]; rfl
theorem kT (one other:List Nat):(cmp one other).length=other.length:=by simp [cmp]
theorem aR {α:Type} {xs:List α} {x:α} (h:xs[i]? = some x):i<xs.length:=(DQ.mp h).1
theorem xt {α:Type} {xs:List α} {v:α} (h:xs[xs.length - 1]? = some v):atI xs (-1)=some v:=by
 have hl:=aR h
 have e:ixN xs.length (-1)=some (xs.length - 1):=by
  unfold ixN
  rw [if_neg (by decide),if_pos (by lia)]
  congr 1
  lia
 unfold atI
 rw [e]; exact h
section
variable {X:Cx} {N tgs frs:List Str} {ix:List Nat} {scope:Scope} {cl:List (Str×Addr)}
theorem kU {prog:Program} {w:World} {A:Around} {R:Result->Shared->Prop} {s:Shared} {elt target iter cnd:Expr} {pos:Pos} {it acc:Value} {env:Env} (I:Nat->Shared->Prop)
  (turn:∀ n s,I n s->wpAny (model prog w) A (pyNext it) (λ r s1=>match r with
   | none=>R (.ok .next) s1
   | some v=>wpAny (model prog w) A (letOwnedTupleGo target it v) (λ _ s1'=>wpAny (model prog w) A (assign target env v) (λ _ s2=>wpAny (model prog w) A (isTrue cnd env (eval cnd env)) (λ b s2'=>if b=true then wpAny (model prog w) A (eval elt env) (λ x s3=>
     wpAny (model prog w) A (call (.builtin "list.append") [acc,x]) (λ _ s4=>∃ m,m<n/\I m s4) (λ _ _=>False) s3)
     (λ _ _=>False) s2' else ∃ m,m<n/\I m s2') (λ _ _=>False) s2) (λ _ _=>False) s1') (λ _ _=>False) s1) (λ _ _=>False) s)
  (n:Nat) (h:I n s) :
  codeAny (model prog w) A (.compLoop (.ListComp elt [⟨target,iter,[cnd],0⟩] scope pos) 0 it acc env) R s:=by
 have up:∀ {α:Type} {t:Sem α} {Q Q':α->Shared->Prop} {E:Value->Shared->Prop} {s:Shared},wpAny (model prog w) A t Q (λ _ _=>False) s->(∀ a s,Q a s->Q' a s)->wpAny (model prog w) A t Q' E s:=λ h hq=>wpAny_mono h hq λ _ _ f=>f.elim
 refine codeAny_loop rfl I (λ n s hI=>?_) n h
 show wpAny _ _ ((compTurn (.ListComp elt [⟨target,iter,[cnd],0⟩] scope pos) 0 it acc env).onRaise (λ x=>do noteFrame x env; theTreesLotGoes x)) _ _ s
 refine wpAny_noted ?_
 rw [compTurn_list]
 refine wpAny_bind (wpAny_standAt (wpAny_bind (up (turn n s hI) (λ r s1 h1=>?_))))
 cases r with
 | none=>exact wpAny_pure h1
 | some v=>
  refine wpAny_bind (up h1 λ _ s1' h1'=>?_)
  refine wpAny_bind (up h1' λ _ s2 h2=>?_)
  simp only [List.forIn_cons,List.forIn_nil,if_true]
  refine wpAny_bind (wpAny_bind (wpAny_bind (up h2 λ b s3 h3=>wpAny_pure (wpAny_pure ?_))))
  cases b with
  | true=>
   rw [if_pos rfl] at h3
   show wpAny _ _ (if true=true then _ else _) _ _ _
   rw [if_pos rfl]
   exact wpAny_bind (wpAny_bind (up h3 (λ x s4 h4=>wpAny_bind (up h4 (λ _ s5 h5=>wpAny_pure (wpAny_pure ⟨rfl,h5⟩))))))
  | false=>
   rw [if_neg (by decide)] at h3
   show wpAny _ _ (if false=true then _ else _) _ _ _
   rw [if_neg (by decide)]
   exact wpAny_pure ⟨rfl,h3⟩
def qT (wi:TI) (g:TG) (tc:TT) (te:TE) (tgs:List Str) (ix:List Nat):TE:=λ σ H Q=>wi σ H λ J H1=>
 ∃ W:Nat->Nat->List V->St->Hp->Prop,(∃ m,W 0 m [] (gq tgs ix σ) H1)/\∀ i m xs σc H,W i m xs σc H->xs.length<sizeLine/\
  ((J.stop i H/\∀ p,H p=none->Q (.ref p) (upd H p (.lst xs)))\/(J.go i H/\∀ x H',J.yld i H x H'->g x σc H' λ σ2 H2=>tc σ2 H2 λ b H3=>if b=true then te σ2 H3 λ y H4=>∃ m',m'<m/\W (i+1) m' (xs++[y]) σ2 H4 else ∃ m',m'<m/\W (i+1) m' xs σ2 H3))
theorem uF {cnd:Expr} {te:TE} (c:CompOk X N tgs frs ix scope cl) (hc:X.calm=true) (hi:PI X tg iter wi)
  (hg:∀ fp C s H,PG (az X N scope cl fp C s H) tg g) (he:∀ fp C s H,PE (az X N scope cl fp C s H) elt te)
  (hcd:∀ fp C s H,PT (az X N scope cl fp C s H) cnd tc)
  (hs:∀ x,foldedSetIterable iter X.env x=pure x:=by intro _; rfl) :
  PE X (.ListComp elt [⟨tg,iter,[cnd],0⟩] scope pos) (qT wi g tc te tgs ix):=by
 intro pins s σ H Q I h
 rw [eval_ListComp]
 refine wpAny_comprehension_free (use:=none) rfl hs c.clos c.kind c.names (thn (hi pins s σ H _ I h) λ xv s1 h1=>thn h1 λ itv s2 h2=>?_)
 obtain ⟨it,fp,tn,J,H2,rfl,I2,T,st2,f2,W,⟨m0,w0⟩,turn⟩:=h2
 have hfl:∀ b∈fp,b<s2.heap.objs.size:=λ b hb=>by
  obtain ⟨o,e,_⟩:=T.obj _ _ st2 b hb
  exact Dp e
 have hcn:∀ x a,cl.lookup x=some a->X.env.cells.lookup x=some a:=c.cls.get
 refine wpAny_newObj_type (wpAny_newFunctionEnv c.cell (by intro y hy; simp at hy) (λ h1 hns1 hsb1=>?_) c.kind)
 dsimp only at hns1 hsb1 ⊢
 generalize hH2:s2.heap.push { cls:=.type "list",dict:=none,data:=.seq ([]:List Value).toArray }=G2 at hns1 hsb1 ⊢
 have hC:G2.objs.size=s2.heap.objs.size+1:=by rw [<-hH2,GJ]
 generalize hCC:G2.objs.size=C at *
 generalize hDD:s2.heap.objs.size=D at *
 have hDC:D≠C:=by lia
 have hCle:D<=C:=by lia
 have old:∀ b o,s2.heap.get? b=some o->h1.get? b=some o:=λ b o e=>by
  have lt:b<s2.heap.objs.size:=Dp e
  exact hsb1.extBut b o (Dw (Ds (hDD▸lt) hCle)) (Dd _ (hH2▸Dd _ e))
 have hacc:h1.get? D=some (aZ [] 0):=hsb1.extBut _ _ hDC (Dd _ (hH2▸(hDD▸DB _ rfl)))
 have cellD:∀ x a,X.env.cells.lookup x=some a->a<D:=λ x a e=>by
  obtain ⟨v,q⟩:=I2.cell x a e
  exact hDD▸q.lt
 have fpc:∀ {H':Hp} {us:List Value} {k:Nat},(∀ b∈fp,H' b=none)->∀ b∈fp,pV (az X N scope cl fp C s2 H2) [(D,aZ us k)] H' b:=λ {H' us k} hn b hb=>by
  have lb:=hfl b hb
  refine ⟨hn b hb,?_,λ z=>?_,.inl hb,λ x a e z=>?_,λ p hp=>?_⟩
  ·exact Dw (Ds lb hCle)
  ·rcases Dx.mp (I2.stkSub b z) with e | e
   ·exact (f2 b hb).2.1 e
   ·exact (f2 b hb).2.2.1 e
  ·exact (f2 b hb).2.2.2.2.1 x a (hcn x a e) z
  ·have:p=(D,aZ us k):=by simpa [az] using hp
   rw [this]; exact E8 lb
 have D_fs:D∉(az X N scope cl fp C s2 H2).fs:=λ z=>by
  rcases Dx.mp (I2.stkSub D z) with e | e
  ·exact absurd I2.lt (by rw [<-e,hDD]; exact EM _)
  ·exact I2.nofs (EZ hDD) e
 have I3:=kM (tk:=s2.toks+([]:List (Str×Value)).length) (pins':=[(D,aZ [] 0)]) c I2 f2 (λ b hb=>hDD▸hfl b hb) (hDD▸hCle:s2.heap.objs.size<=C) hns1 old (λ p hp=>by
  have e:p=(D,aZ [] 0):=by simpa using hp
  subst e
  exact ⟨hacc,EZ hDD,hDC,λ v z=>by cases z⟩)
 have tn3:tn 0 h1:=T.keep _ _ _ st2 λ b _ o e=>old b o e
 have loop:codeAny (model X.prog X.w) X.A (.compLoop (.ListComp elt [⟨tg,iter,[cnd],0⟩] scope pos) 0 (.ref it) (.ref D) (compEnvC scope cl C X.env))
   (compPost (model X.prog X.w) X.A X.xe none (EP X pins σ Q) (.ref D) C) { s2 with heap:=h1,toks:=s2.toks+([]:List (Str×Value)).length }:=by
  refine kU (λ n s'=>∃ i xs us k σc H',Inv (az X N scope cl fp C s2 H2) [(D,aZ us k)] σc H' s'/\tn i s'.heap/\(∀ b∈fp,H' b=none)/\Vals xs us/\W i n xs σc H') ?_ m0
   ⟨0,[],[],0,_,H2,I3,tn3,λ b hb=>(f2 b hb).1,.nil,w0⟩
  rintro n s4 ⟨i,xs,us,k,σ4,H4,I4,tn4,fr4,rv,w4⟩
  obtain ⟨hsz,tt⟩:=turn i n xs σ4 H4 w4
  rcases tt with ⟨stop,fin⟩ | ⟨go,step⟩
  ·refine thn (T.done (az X N scope cl fp C s2 H2) rfl rfl rfl hc i _ s4 σ4 H4 _ I4 (fpc fr4) tn4 stop) λ r s5 ⟨hr,I5⟩=>?_
   subst hr
   obtain ⟨m,ns,_⟩:=I5.loc
   refine ⟨m,ns,λ h' sb=>?_⟩
   have J1:Inv X pins σ H4 s5:=I2.call' I5.os I5.base I5.hok I5.bare λ b hb=>⟨(f2 b hb).2.2.2.1,(f2 b hb).2.1,(f2 b hb).2.2.2.2.1,(f2 b hb).2.2.2.2.2⟩
   have big:∀ a,D<=a->a≠X.env.locals/\(a∈X.ex\/X.s₀.heap.objs.size<=a)/\(∀ x y,X.env.cells.lookup x=some y->y≠a)/\∀ p∈X.pn++pins,p.1≠a:=λ a ha=>by
    obtain ⟨q0,q1,q2,q3,q4,q5⟩:=I2.fpOk (b:=a) (H':=λ _=>none) (hDD▸ha) rfl
    exact ⟨q1,q3,q4,q5⟩
   obtain ⟨b1,b2,b3,b4⟩:=big C hCle
   have J2:Inv X pins σ H4 { s5 with heap:=h' }:=J1.turned (t':=s5.toks) (λ b o hb e=>sb.extBut b o hb e) I5.free b1 b2 b3 b4
   obtain ⟨p1,p2,p3,p4,p5⟩:=I5.pin (D,aZ us k) (by simp)
   obtain ⟨d1,d2,d3,d4⟩:=big D (C8 _)
   have J3:Inv X pins σ (upd H4 D (.lst xs)) { s5 with heap:=h' }:=J2.adopt p2 d1 d2 d3 d4 ⟨EN hsz,us,k,rv,sb.extBut _ _ hDC p1⟩
   exact ⟨.ref D,_,J3,rfl,fin D p2⟩
  ·refine thn (T.item (az X N scope cl fp C s2 H2) rfl rfl rfl hc i _ s4 σ4 H4 _ I4 (fpc fr4) tn4 go) λ r s5 ⟨u,hr,h5⟩=>?_
   subst hr
   refine thn h5 λ _ s6 ⟨x,H6,I6,r6,y6,tn6,fr6⟩=>?_
   have I6':=I6.pinned (fpc fr6) (T.obj _ _ tn6)
   refine thn (hg fp C s2 H2 _ s6 σ4 H6 x u _ I6' r6 (step x H6 y6)) λ _ s7 ⟨σ7,H7,I7,q7⟩=>?_
   refine thn (hcd fp C s2 H2 _ s7 σ7 H7 _ I7 q7) λ b s7' ⟨H7',I7',q7'⟩=>?_
   cases b with
   | false=>
    rw [if_neg (by decide)] at q7' ⊢
    obtain ⟨m',hm,w8⟩:=q7'
    have tn8:tn (i+1) s7'.heap:=T.keep _ _ _ tn6 λ b hb o e=>(I7'.pin (b,o) (Dj _ (Dj _ (bm hb e)))).1
    have fr8:∀ b∈fp,H7' b=none:=λ b hb=>by
     obtain ⟨o,e,d⟩:=T.obj _ _ tn6 b hb
     exact (I7'.pin (b,o) (Dj _ (Dj _ (bm hb e)))).2.1
    exact ⟨m',hm,i+1,xs,us,k,σ7,H7',I7'.unpinned,tn8,fr8,rv,w8⟩
   | true=>
    rw [if_pos rfl] at q7' ⊢
    refine thn (he fp C s2 H2 _ s7' σ7 H7' _ I7' q7') λ yv s8 ⟨y,H8,I8,r8,m',hm,w8⟩=>?_
    obtain ⟨p1,p2,p3,p4,p5⟩:=I8.pin (D,aZ us k) (by simp [az])
    have hsz':us.toArray.size<=sizeLine:=by simp; rw [<-rv.length]; exact EN hsz
    refine wpAny_list_append_plain (hsz:=hsz') ⟨k,p1⟩ λ h' pl sb=>?_
    have tn8:tn (i+1) s8.heap:=T.keep _ _ _ tn6 λ b hb o e=>(I8.pin (b,o) (Dj _ (Dj _ (bm hb e)))).1
    have fr8:∀ b∈fp,H8 b=none:=λ b hb=>by
     obtain ⟨o,e,d⟩:=T.obj _ _ tn6 b hb
     exact (I8.pin (b,o) (Dj _ (Dj _ (bm hb e)))).2.1
    have I9:Inv (az X N scope cl fp C s2 H2) [] σ7 H8 s8:=I8.pins_of λ p hp=>nomatch hp
    have I10:Inv (az X N scope cl fp C s2 H2) [] σ7 H8 { s8 with heap:=h' }:=I9.turned (t':=s8.toks) (it:=D) (λ b o hb e=>sb.extBut b o hb e) p2 p3 (.inr (EZ hDD))
     (λ x a e=>Dw (cellD x a (hcn x a e))) (λ p hp=>by simp [az] at hp)
    obtain ⟨k',pl⟩:=pl
    have eu:us.toArray.push yv=(us++[yv]).toArray:=by simp
    rw [eu] at pl
    have I11:Inv (az X N scope cl fp C s2 H2) [(D,aZ (us++[yv]) k')] σ7 H8 { s8 with heap:=h' }:=I10.pins_of λ p hp=>by
     have e:p=(D,aZ (us++[yv]) k'):=by simpa using hp
     subst e
     exact ⟨pl,p2,p3,p4,λ v z=>by cases z⟩
    exact ⟨m',hm,i+1,xs++[y],us++[yv],k',σ7,H8,I11,T.keep _ _ _ tn8 λ b hb o e=>sb.extBut b o (Dw (hfl b hb)) e,fr8,rv.append (.cons r8 .nil),w8⟩
 exact codeAny_compStart_list loop (T.self _ 0 _ _ _ tn3 loop)
theorem iT {cnd:Expr} {te:TE} (c:CompOk X N tgs frs ix scope cl) (hc:X.calm=true) (hi:QI X tg iter wi)
  (hg:∀ fp C s H,QG (az X N scope cl fp C s H) tg g) (he:∀ fp C s H,QE (az X N scope cl fp C s H) elt te) (hcd:∀ fp C s H,QT (az X N scope cl fp C s H) cnd tc)
  (hs:∀ x,foldedSetIterable iter X.env x=pure x:=by intro _; rfl) :
  QE X (.ListComp elt [⟨tg,iter,[cnd],0⟩] scope pos) (qT wi g tc te tgs ix):=⟨uF c hc hi.out (λ fp C s H=>(hg fp C s H).out) (λ fp C s H=>(he fp C s H).out) (λ fp C s H=>(hcd fp C s H).out) hs⟩
end
section
variable {X:Cx} {e o b:Expr} {to tb te:TE} {t:TA} {pos apos cpos tpos:Pos}
theorem l8 {K:C7} (ho:QE X o to) (hbase:attributeBase o ("pop" : Str) X.env (eval o X.env)=eval o X.env:=by rfl) (hline:(apos.endLine == cpos.line)=true:=by rfl) (hK:X.K=K:=by rfl) :
  QE X (.Call (.Attribute o "pop" apos) [] [] cpos) (Bh K "list" Bj to):=by subst hK; exact ⟨zn FZ PySem.F.slot_list_pop PySem.F.type_list_pop zo ho.out hbase hline⟩
theorem qU {K:C7} (ho:QE X o to) (ha:QA X [e] t) (hbase:attributeBase o ("extend" : Str) X.env (eval o X.env)=eval o X.env:=by rfl) (hline:(apos.endLine == cpos.line)=true:=by rfl) (hn:cI e=true:=by rfl) (hK:X.K=K:=by rfl) :
  QE X (.Call (.Attribute o "extend" apos) [e] [] cpos) (tBM K "list" mV to t):=by subst hK; exact ⟨qG FZ ID IE qz ho.out ha.out hbase hline hn⟩
end
section
variable {X:Cx} {N tgs frs:List Str} {ix:List Nat} {scope:Scope} {cl:List (Str×Addr)} {xc:Str}
end
section
variable {X:Cx} {e o b:Expr} {to tb te:TE} {pos tpos:Pos}
def zJ:R2:=λ x y H Q=>∃ a b xs ys,x=.ref a/\y=.ref b/\H a=some (.tup xs)/\H b=some (.tup ys)/\xs.length+ys.length<=sizeLine/\∀ p H',Same H H'->H' p=some (.tup (xs++ys))->Q (.ref p) H'
theorem xu:QOp X (binaryOp .Add) zJ:=by
 refine ⟨λ pins s σ H x y v u Q I rx ry h=>?_⟩
 obtain ⟨a,b,xs,ys,rfl,rfl,ha,hb,hz,q⟩:=h
 by_cases hx:xs=[]
 ·subst hx
  cases rx; cases ry
  obtain ⟨its,r1,p1,_⟩:=I.tuple (MR ha)
  obtain ⟨its2,r2,p2,_⟩:=I.tuple (MR hb)
  obtain ⟨⟨c1,d1,t1,l1⟩,o1,o2,n1,o3⟩:=id p1
  obtain ⟨⟨c2,d2,t2,l2⟩,o4,o5,n2,o6⟩:=id p2
  simp only at o2 o3 o5 o6
  subst o2 o3 o5 o6
  have e1:its=[]:=r1.nil_iff.mpr rfl
  refine concat_meets ⟨_,o1,rfl⟩ ⟨_,o4,rfl⟩ noFill_tuple_add seq_tuple_add GO GL (GF _ _)
   (tuple_addW0 a b its.toArray its2.toArray n1 n2 d1 d2 l1 l2 (by simp [e1])) ⟨o1,o4,?_⟩
  exact ⟨.ref b,H,I,rfl,q b H (Same.refl H) hb⟩
 ·exact wW pins s σ H _ _ v u Q I rx ry ⟨a,b,xs,ys,rfl,rfl,MR ha,MR hb,hx,hz,λ e=>q a H (Same.refl H) (by rw [e,Ef]; exact ha),λ _ p hp=>q p _ ((Same.refl H).new hp) ab⟩
def zK (K:C7):R2:=λ x y H Q=>∃ a b xs,x=.ref a/\y=.ref b/\SqL K H a xs/\SqL K H b []/\Q (.bl (!decide (xs=[]))) H
theorem qV {K:C7} (hu:X.A.units<cLine) (hK:X.K=K:=by rfl):QOp X (compareOp .NotEq) (zK K):=by
 subst hK
 refine ⟨λ pins s σ H x y v u Q I rx ry h=>?_⟩
 obtain ⟨a,b,xs,rfl,rfl,ha,hb,q⟩:=h
 cases rx; cases ry
 obtain ⟨its,r1,p1,z1⟩:=I.list ha
 obtain ⟨its2,r2,p2,z2⟩:=I.list hb
 have l1:its.toArray.size=xs.length:=by have:=r1.length; simp; lia
 have l2:its2.toArray.size=0:=by have:=r2.length; simp at this; simp [this]
 by_cases hx:xs=[]
 ·subst hx
  refine Mr (e:=λ _=>true) p1.isList p2.isList (by rw [l1,l2]; rfl) hu (λ j h1 h2=>absurd h2 (by lia)) X.prog X.w X.xe _ ?_
  rw [l1]
  exact ⟨.bl false,H,I,rfl,q⟩
 ·refine La p1.isList p2.isList (by rw [l1,l2]; have:=GB.mpr hx; simp; exact hx) hu X.prog X.w X.xe _ ?_
  rw [decide_eq_false hx] at q
  exact ⟨.bl true,H,I,rfl,q⟩
def zL (K:C7):V->V->Hp->VK->Prop:=λ o i H Q=>∃ a xs k v,o=.ref a/\i=.int k/\SqL K H a xs/\0<=k/\xs[k.toNat]? = some v/\Q v H
theorem uG:BX X (zL X.K):=by
 intro pins s σ H o i ov iv Q I ro ri h
 obtain ⟨a,xs,k,v,rfl,rfl,hq,h0,hv,q⟩:=h
 cases ro
 obtain ⟨t,rfl⟩:=ri
 obtain ⟨its,r,pl,hz⟩:=I.list hq
 obtain ⟨w,ew,rw'⟩:=r.get hv
 have hl:=aR hv
 have hn:=jb
 exact wpAny_getItem_list pl.isList h0 (by lia) (by simpa using ew) ⟨v,H,I,rw',q⟩
theorem kW {K:C7} (ho:QE X o to) (hi:QE X b tb) (he:QE X e te) (ha:∀ ov iv new,augStore b ov iv new=(do holding [new,ov,iv] (setItem ov iv new); release [new,ov,iv] []; pure .next):=by intros; rfl) (hK:X.K=K:=by rfl) :
  QS X (.AugAssign (.Subscript o b tpos) .Add e pos) (wy to tb te (zL K) (ipI λ i j=>i+j) qx):=by subst hK; exact ⟨wz ho.out hi.out uG he.out yS nP ha⟩
end
section
variable {K:C7} {σ:St} {H:Hp} {Q:VK} {D:Ends}
theorem BI {ti te:TE} {tget:V->V->Hp->VK->Prop} {tip:TIp} {tset:wv} (h:to σ H λ o H1=>ti σ H1 λ i H2=>tget o i H2 λ x H3=>te σ H3 λ y H4=>tip x y H4 λ z H5=>tset o i z H5 λ H6=>D.nx σ H6):wy to ti te tget tip tset D σ H:=h
theorem Cp {r:V->List V->Hp->VK->Prop} {T:String} (h:to σ H λ x H1=>tyV K T x H1/\r x [] H1 Q):Bh K T r to σ H Q:=h
theorem AI {te:TE} {tgs:List Str} {ix:List Nat} (h:wi σ H λ J H1=>
 ∃ W:Nat->Nat->List V->St->Hp->Prop,(∃ m,W 0 m [] (gq tgs ix σ) H1)/\∀ i m xs σc H,W i m xs σc H->xs.length<sizeLine/\
  ((J.stop i H/\∀ p,H p=none->Q (.ref p) (upd H p (.lst xs)))\/(J.go i H/\∀ x H',J.yld i H x H'->g x σc H' λ σ2 H2=>tc σ2 H2 λ b H3=>if b=true then te σ2 H3 λ y H4=>∃ m',m'<m/\W (i+1) m' (xs++[y]) σ2 H4 else ∃ m',m'<m/\W (i+1) m' xs σ2 H3))):qT wi g tc te tgs ix σ H Q:=h
theorem jo {te:TE} {σ0:St} {R:List V->Hp->Prop} (Pv:Nat->List V->St->Hp->Prop) (hz:vs.length<sizeLine) (hl:∀ i ys σ H,Pv i ys σ H->ys.length<=i) (ht:∀ i ys σ H,Pv i ys σ H->SqL K H a vs) (h0:Pv 0 [] σ0 H)
  (hs:∀ i ys σ H x,vs[i]? = some x->Pv i ys σ H->g x σ H λ σ2 H2=>tc σ2 H2 λ b H3=>if b=true then te σ2 H3 λ y H4=>Nx vs.length i (Pv (i+1) (ys++[y]) σ2 H4) else Nx vs.length i (Pv (i+1) ys σ2 H3)) (hd:∀ ys σ H,Pv vs.length ys σ H->R ys H) :
  ∃ W:Nat->Nat->List V->St->Hp->Prop,(∃ m,W 0 m [] σ0 H)/\∀ i m xs σc H,W i m xs σc H->xs.length<sizeLine/\
  (((Itl K a).stop i H/\R xs H)\/((Itl K a).go i H/\∀ x H',(Itl K a).yld i H x H'->g x σc H' λ σ2 H2=>tc σ2 H2 λ b H3=>if b=true then te σ2 H3 λ y H4=>∃ m',m'<m/\W (i+1) m' (xs++[y]) σ2 H4 else ∃ m',m'<m/\W (i+1) m' xs σ2 H3)):=by
 refine ⟨λ i m xs σ H=>m=vs.length - i/\i<=vs.length/\Pv i xs σ H,⟨vs.length,by simp,Du _,h0⟩,?_⟩
 rintro i m xs σ H ⟨rfl,hi,p⟩
 have q:=ht i xs σ H p
 refine ⟨EE (D9 (hl i xs σ H p) hi) hz,?_⟩
 by_cases hlt:i<vs.length
 ·refine .inr ⟨⟨vs,vs[i],q,by simp [hlt]⟩,λ x H' y=>?_⟩
  obtain ⟨e,y⟩:=y
  subst e
  exact hs i xs σ _ x (y vs q) p
 ·have e:i=vs.length:=by lia
  subst e
  exact .inl ⟨⟨vs,q,C8 _⟩,hd xs σ H p⟩
end
noncomputable def cnt (os:List Nat) (b:Nat):List Nat:=(C9 b).map λ f=>os.count f
theorem aS (os:List Nat) (b:Nat):(cnt os b).length=b:=by simp [cnt]
theorem bU {os:List Nat} (h:f<b):(cnt os b)[f]? = some (os.count f):=by
 unfold cnt
 rw [De,Eg h]; rfl
theorem uH {os:List Nat} {x:Nat} (h:x<b):(cnt os b).set x (os.count x+1)=cnt (os++[x]) b:=by
 apply Gn
 intro i
 rw [Ii]
 by_cases hi:i<b
 ·rw [bU hi,bU hi,Fj,aS]
  by_cases e:x=i
  ·subst e; rw [if_pos rfl,if_pos h]; simp
  ·rw [if_neg e]
   have:KC i [x]=0:=GG.mpr (by simp; exact λ z=>e z.symm)
   rw [this,FS]
 ·rw [Ea (l:=cnt os b) (by rw [aS]; lia),Ea (l:=cnt (os++[x]) b) (by rw [aS]; lia)]
  split
  ·split
   ·rename_i h1 h2; rw [aS] at h2; lia
   ·rfl
  ·rfl
noncomputable def fz (rss:List (List Nat)) (c:Nat):List Nat:=rss.map λ r=>r.getD c 0
theorem qW (os:List Nat) (w:Nat) (h:w<=os.length):kI (NV os) none (some (w:Int))=NV (os.take w):=by
 unfold kI
 rw [HT.eT,HT.nO,ax,E7 h,DZ,G6]
 unfold NV
 rw [Fn]
theorem qX (os:List Nat) (w:Nat) (h:w<=os.length):kI (NV os) (some (w:Int)) none=NV (os.drop w):=by
 unfold kI
 rw [HT.eT,HT.nO,ax,E7 h,Da (by rw [DU,ax]; exact C8 _)]
 unfold NV
 rw [Fo]
theorem zM (m:Nat):FY ((m:Int) - 1) (-1) (-1)=m:=by
 unfold FY
 rw [if_neg (by decide)]
 split
 ·rw [show (-(-1):Int)=1 by decide,LH]; lia
 ·lia
theorem zN (h:m<=1000):Jx ((m:Int) - 1) (-1) (-1)=true:=by
 unfold Jx
 rw [zM]
 simp only [KU,Ey,Bool.or_eq_true,decide_eq_true_eq,beq_iff_eq,show ¬ ((-1:Int) > 0) by decide,if_false]
 refine ⟨?_,?_⟩<;>first | lia | (refine ⟨?_,?_⟩<;>first | lia | (split<;>lia)) | (split<;>lia) | trace_state
def Itd (m:Nat):It:=⟨λ i _=>i<m,λ i H x H'=>H'=H/\x=.int ((m - 1 - i:Nat):Int),λ i _=>m<=i⟩
theorem mZ {w:World} {K:C7} (it:Addr) (m:Nat):Turn P w K tg (Itd m) [it] it (λ i h=>IsRangeIter h it (((m:Int) - 1)+(i:Nat)*(-1)) ((m:Int) - (i:Nat)) (-1)) where
 mem:=by simp
 obj:=λ i h st b hb=>by
  have e:b=it:=by simpa using hb
  subst e
  exact ⟨_,st,λ v z=>by
   have z':LY _=Mn v:=z
   cases z'⟩
 keep:=λ i h h' st k=>k it (by simp) _ st
 item:=by
  intro X hP hw hK hc i pins s σ H E I hf st hg
  subst hP hw hK
  obtain ⟨f0,f1,f2,f3,f4,f5⟩:=hf it (by simp)
  have hi:i<m:=hg
  have W:=LZ (prog:=X.prog) (w:=X.w) (I.ok.hd hc) it ((m:Int) - 1) (-1) m
  refine W.item i s _ _ hg st λ v h' tk hv st' kk=>?_
  obtain ⟨t,rfl⟩:=hv
  have I1:Inv X pins σ H { s with heap:=h',toks:=tk }:=I.turned (λ b o hb e=>kk b o (by simpa using hb) e) f0 f1 f3 f4 f5
  refine ⟨_,rfl,t7 (s:={ s with heap:=h',toks:=tk }) (n:="range_iterator") st' rfl rfl (by decide) ⟨.int ((m - 1 - i:Nat):Int),H,I1,⟨t,?_⟩,⟨rfl,rfl⟩,st',λ b hb=>(hf b hb).1⟩⟩
  congr 1
  lia
 done:=by
  intro X hP hw hK hc i pins s σ H E I hf st hg
  subst hP hw hK
  obtain ⟨f0,f1,f2,f3,f4,f5⟩:=hf it (by simp)
  exact wpAny_pyNext_range_end (I.ok.hd hc) st (by have:m<=i:=hg; lia) λ h' eb=>⟨rfl,I.turned (t':=s.toks) (λ b o hb e=>eb b o hb e) f0 f1 f3 f4 f5⟩
 self:=λ _ _ _ _ _ st h=>wpAny_pyIter_rangeiter st h
section
variable {X:Cx} {tg a b c:Expr} {t:TA} {p pos:Pos}
def zO (t:TA):TI:=λ σ H R=>t σ H λ vs H1=>∃ m:Nat,vs=[.int ((m:Int) - 1),.int (-1),.int (-1)]/\m<=1000/\R (Itd m) H1
theorem qY (hg:Gl X "range") (hm:X.mg "range" = none) (ha:QA X [a,b,c] t) (hn:cI a=true:=by rfl) (hn2:cI b=true:=by rfl) (hn3:cI c=true:=by rfl):QI X tg (.Call (.Name "range" p) [a,b,c] [] pos) (zO t):=by
 refine ⟨λ pins s σ H R I h=>?_⟩
 have e3:starEach [c] X.env=[(false,eval c X.env)]:=aP hn3
 have e2:starEach [b,c] X.env=[(false,eval b X.env),(false,eval c X.env)]:=by rw [aP hn2,e3]
 refine Call_ (eJ I hg hm boot_range (Et (thn (ha.out pos pins s σ H _ I h) λ us s1 ⟨vs,H1,I1,r1,q1⟩=>?_) (aP hn) (by rw [e2]; rfl)))
 obtain ⟨m,e,hm1,q⟩:=q1
 subst e
 cases r1 with
 | cons r rr=>
  cases rr with
  | cons r' rr=>
   cases rr with
   | cons r'' rr=>
    cases rr
    obtain ⟨t1,rfl⟩:=r
    obtain ⟨t2,rfl⟩:=r'
    obtain ⟨t3,rfl⟩:=r''
    refine call_range_3 (by decide) ?_ (.inl (IC (by decide +kernel)))
    refine wpAny_pyIter_range (Kd ..) (zN hm1) ?_
    have I2:Inv X pins σ H1 { s1 with heap:=s1.heap.push { cls:=.type "range",data:=.fields #[.int ((m:Int) - 1) t1,.int (-1) t2,.int (-1) t3] },toks:=s1.toks }:=I1.kept λ b o e=>Dd _ e
    refine ⟨_,[(s1.heap.push { cls:=.type "range",data:=.fields #[.int ((m:Int) - 1) t1,.int (-1) t2,.int (-1) t3] }).objs.size],_,_,H1,rfl,I2.kept (t':=s1.toks) λ b o e=>Dd _ e,mZ _ m,?_,λ b hb=>?_,q⟩
    ·show IsRangeIter _ _ (((m:Int) - 1)+((0:Nat):Int)*(-1)) ((m:Int) - ((0:Nat):Int)) (-1)
     have g1:((m:Int) - 1)+((0:Nat):Int)*(-1)=(m:Int) - 1:=by simp
     have g2:(m:Int) - ((0:Nat):Int)=FY ((m:Int) - 1) (-1) (-1):=by rw [zM]; simp
     rw [g1,g2]
     exact DB _ rfl
    ·have e:b=(s1.heap.push { cls:=.type "range",data:=.fields #[.int ((m:Int) - 1) t1,.int (-1) t2,.int (-1) t3] }).objs.size:=by simpa using hb
     subst e
     exact I2.fpOk (C8 _) (I2.hok.fresh (C8 _))
end
theorem BJ {H:Hp} {R:It->Hp->Prop} (h:t σ H λ vs H1=>∃ m:Nat,vs=[.int ((m:Int) - 1),.int (-1),.int (-1)]/\m<=1000/\R (Itd m) H1):zO t σ H R:=h
section
variable {prog:Program} {w:World} {A:Around} {E:Value->Shared->Prop} {s:Shared}
end
section
variable {X:Cx} {a b:Expr} {t:TA} {p pos tpos:Pos} {ts:List Expr} {k:Nat}
end
section
variable {X:Cx} {N tgs frs:List Str} {ix:List Nat} {scope:Scope} {cl:List (Str×Addr)}
end
section
variable {X:Cx} {N tgs frs:List Str} {ix:List Nat} {scope:Scope} {cl:List (Str×Addr)} {xc:Str}
end
section
variable {X:Cx} {e o:Expr} {to te:TE} {t:TA} {pos apos cpos:Pos}
end
section
variable {K:C7} {σ:St} {H:Hp} {Q:VK} {g:TG} {tc:TT} {te:TE}
theorem qZ {g:TG} {tc:TT} {te:TE} {σ0:St} {R:List V->Hp->Prop} (Pv:Nat->List V->St->Hp->Prop) (hz:vs.length<sizeLine) (hl:∀ i ys σ H,Pv i ys σ H->ys.length<=i) (ht:∀ i ys σ H,Pv i ys σ H->SqT K H a vs) (h0:Pv 0 [] σ0 H)
  (hs:∀ i ys σ H x,vs[i]? = some x->Pv i ys σ H->g x σ H λ σ2 H2=>tc σ2 H2 λ b H3=>if b=true then te σ2 H3 λ y H4=>Nx vs.length i (Pv (i+1) (ys++[y]) σ2 H4) else Nx vs.length i (Pv (i+1) ys σ2 H3)) (hd:∀ ys σ H,Pv vs.length ys σ H->R ys H) :
  ∃ W:Nat->Nat->List V->St->Hp->Prop,(∃ m,W 0 m [] σ0 H)/\∀ i m xs σc H,W i m xs σc H->xs.length<sizeLine/\
  (((Itt K a).stop i H/\R xs H)\/((Itt K a).go i H/\∀ x H',(Itt K a).yld i H x H'->g x σc H' λ σ2 H2=>tc σ2 H2 λ b H3=>if b=true then te σ2 H3 λ y H4=>∃ m',m'<m/\W (i+1) m' (xs++[y]) σ2 H4 else ∃ m',m'<m/\W (i+1) m' xs σ2 H3)):=by
 refine ⟨λ i m xs σ H=>m=vs.length - i/\i<=vs.length/\Pv i xs σ H,⟨vs.length,by simp,Du _,h0⟩,?_⟩
 rintro i m xs σ H ⟨rfl,hi,p⟩
 have q:=ht i xs σ H p
 refine ⟨EE (D9 (hl i xs σ H p) hi) hz,?_⟩
 by_cases hlt:i<vs.length
 ·refine .inr ⟨⟨vs,vs[i],q,by simp [hlt]⟩,λ x H' y=>?_⟩
  obtain ⟨e,y⟩:=y
  subst e
  exact hs i xs σ _ x (y vs q) p
 ·have e:i=vs.length:=by lia
  subst e
  exact .inl ⟨⟨vs,q,C8 _⟩,hd xs σ H p⟩
end
section
variable {X:Cx}
end
noncomputable def iU (os:List Nat):List Nat:=os.filter λ m=>decide (0<m)
noncomputable def bD (os:List Nat):Bool:=decide (1<(iU os).length)
noncomputable def ai (os:List Nat) (f:Nat):Nat:=os.countP λ x=>decide (x<f)
noncomputable def ph (cs:List Nat):List Nat:=(C9 cs.length).map λ f=>(cs.take f).sum
noncomputable def eE (os:List Nat) (k:Nat):Nat:=ai os (os.getD k 0)+(os.take k).count (os.getD k 0)
theorem aM (os:List Nat) (f:Nat):ai os (f+1)=ai os f+os.count f:=by
 unfold ai
 induction os with
 | nil=>rfl
 | cons x xs ih=>
  rw [IF,IF,List.count_cons,ih]
  by_cases h:x<f
  ·have h1:x≠f:=by lia
   have h2:x<f+1:=by lia
   simp [h,h1,h2]; lia
  ·by_cases h1:x=f
   ·subst h1; simp; lia
   ·have h2:¬ x<f+1:=by lia
    simp [h,h1,h2]
theorem bn {os:List Nat} {g:Nat} (h:f<=g):ai os f<=ai os g:=by
 induction g with
 | zero=>(have:f=0:=(by lia)); subst this; exact C8 _
 | succ g ih=>
  by_cases e:f=g+1
  ·subst e; exact C8 _
  ·have:=ih (by lia)
   rw [aM]; lia
theorem c9 (os:List Nat) (f:Nat):ai os f<=os.length:=Jc
theorem bh (os:List Nat) (b f:Nat) (h:f<=b):((cnt os b).take f).sum=ai os f:=by
 induction f with
 | zero=>simp [ai]
 | succ f ih=>
  rw [Dz,bU (by lia),ER,ih (by lia),aM]
  simp
theorem iV (cs:List Nat):(ph cs).length=cs.length:=by simp [ph]
theorem iW {cs:List Nat} (h:f<cs.length):(ph cs)[f]? = some (cs.take f).sum:=by
 unfold ph
 rw [De,Eg h]; rfl
theorem rb {cs:List Nat} (h:f<cs.length):(ph cs).take (f+1)=(ph cs).take f++[(cs.take f).sum]:=by
 rw [Dz,iW h]; rfl
theorem gv (os:List Nat) (f:Nat) (h:i<=j):(os.take i).count f<=(os.take j).count f:=by
 have:os.take i=(os.take j).take i:=by rw [List.take_take,E7 h]
 rw [this]
 exact Mc _ (FC i _)
theorem cN {os:List Nat} (h:k<os.length):(os.take (k+1)).count (os.getD k 0)=(os.take k).count (os.getD k 0)+1:=by
 rw [Dz,C4 h,Fj]
 simp [C5,C4 h]
theorem gA {os:List Nat} (h:k<os.length):eE os k<ai os (os.getD k 0+1):=by
 unfold eE
 rw [aM]
 have h1:=cN h
 have h2:=gv os (os.getD k 0) (i:=k+1) (j:=os.length) (by lia)
 rw [Da (C8 _)] at h2
 lia
theorem m5 {os:List Nat} (h:k<os.length):eE os k<os.length:=Ds (gA h) (c9 _ _)
theorem dE {os:List Nat} (hi:i<os.length) (hj:j<os.length) (h:os.getD i 0<os.getD j 0\/os.getD i 0=os.getD j 0/\i<j):eE os i<eE os j:=by
 rcases h with h | ⟨h,hij⟩
 ·have h1:=gA hi
  have h2:=bn (os:=os) (f:=os.getD i 0+1) (g:=os.getD j 0) h
  unfold eE at *
  lia
 ·unfold eE
  rw [<-h]
  have h1:=cN hi
  have h2:=gv os (os.getD i 0) (i:=i+1) (j:=j) hij
  lia
theorem nS {os:List Nat} (hi:i<os.length) (hj:j<os.length) (h:eE os i=eE os j):i=j:=by
 rcases EL (os.getD i 0) (os.getD j 0) with g | g | g
 ·have:=dE hi hj (.inl g); lia
 ·rcases EL i j with q | q | q
  ·have:=dE hi hj (.inr ⟨g,q⟩); lia
  ·exact q
  ·have:=dE hj hi (.inr ⟨g.symm,q⟩); lia
 ·have:=dE hj hi (.inl g); lia
theorem l9 {xs ys:List Nat} (h:xs.Nodup) (hs:∀ x∈xs,x∈ys) (hl:ys.length<=xs.length):xs.Perm ys:=by
 induction xs generalizing ys with
 | nil=>cases ys with
  | nil=>exact D0 _
  | cons y r=>simp at hl
 | cons x xs ih=>
  have hx:x∈ys:=hs x (DF ..)
  have hp:=Jp hx
  refine Fi (MK x (ih (FA.mp h).2 (λ z hz=>?_) ?_)) hp.symm
  ·have:z≠x:=λ e=>(FA.mp h).1 (e▸hz)
   exact (Jq this).mpr (hs z (DE _ hz))
  ·rw [List.length_erase_of_mem hx]; simp at hl; lia
structure ByF (os ob:List Nat):Prop where
 len:ob.length=os.length
 at_:∀ k,k<os.length->ob[eE os k]? = some k
theorem ByF.get {os ob:List Nat} (h:ByF os ob) {a x:Nat} (e:ob[a]? = some x):x<os.length/\a=eE os x:=by
 -- the spots are each place once
 have hsur:∀ a,a<os.length->∃ k,k<os.length/\eE os k=a:=by
  intro a ha
  have hnd:((C9 os.length).map (eE os)).Nodup:=by
   rw [HV,DK]
   intro i j hi hj hij e
   simp only [C6,DR] at hi hj
   rw [Fb,Fb,Gg,Gg] at e
   have:=nS hi hj e
   lia
  have hsub:∀ x∈(C9 os.length).map (eE os),x∈C9 os.length:=λ x hx=>by
   obtain ⟨k,hk,rfl⟩:=DM.mp hx
   exact DN.mpr (m5 (DN.mp hk))
  have hp:((C9 os.length).map (eE os)).Perm (C9 os.length):=l9 hnd hsub (by simp)
  obtain ⟨k,hk,e⟩:=DM.mp (hp.mem_iff.mpr (DN.mpr ha))
  exact ⟨k,DN.mp hk,e⟩
 have ha:a<os.length:=by rw [<-h.len]; exact aR e
 obtain ⟨k,hk,rfl⟩:=hsur a ha
 rw [h.at_ k hk] at e
 cases e
 exact ⟨hk,rfl⟩
theorem ByF.ord {os ob:List Nat} (h:ByF os ob):Ord ob os.length:=by
 refine ⟨h.len,λ x hx=>?_,λ i j r a b=>?_,λ x hx=>⟨eE os x,m5 hx,h.at_ x hx⟩⟩
 ·obtain ⟨a,e⟩:=FL hx
  exact (h.get e).1
 ·rw [(h.get a).2,(h.get b).2]
theorem ByF.rise {os ob:List Nat} (h:ByF os ob):ob.Pairwise λ i j=>os.getD i 0<os.getD j 0\/os.getD i 0=os.getD j 0/\i<j:=by
 rw [DK]
 intro a b ha hb hab
 obtain ⟨h1,e1⟩:=h.get (C4 ha)
 obtain ⟨h2,e2⟩:=h.get (C4 hb)
 generalize ob[a]=i at *
 generalize ob[b]=j at *
 rcases EL (os.getD i 0) (os.getD j 0) with g | g | g
 ·exact .inl g
 ·rcases EL i j with q | q | q
  ·exact .inr ⟨g,q⟩
  ·subst q; lia
  ·have:=dE h2 h1 (.inr ⟨g.symm,q⟩); lia
 ·have:=dE h2 h1 (.inl g); lia
theorem Ord.perm {os:List Nat} (h:Ord os n):os.Perm (C9 n):=by
 refine l9 ?_ (λ x hx=>DN.mpr (h.lt x hx)) (by rw [DR,h.len]; exact C8 _)
 rw [HV,DK]
 intro i j hi hj hij e
 have:=h.inj i j os[i] (C4 hi) (by rw [e]; exact C4 hj)
 lia
theorem fA (xs:List Nat):(C9 xs.length).map (λ p=>xs.getD p 0)=xs:=by
 apply Fv (by simp)
 intro i h1 h2
 simp [C5,C4 h2]
theorem kX {os xs:List Nat} (h:os.Perm (C9 xs.length)):(os.map λ p=>xs.getD p 0).Perm xs:=by
 have:=h.map (λ p=>xs.getD p 0)
 rw [fA] at this
 exact this
theorem nU {xs ys:List Nat} (h:xs.Perm ys):cnt xs b=cnt ys b:=by
 unfold cnt
 apply Ep
 intro f _
 exact h.count_eq f
theorem xw {os:List Nat} (h:∀ o∈os,o<b):(cnt os b).sum=os.length:=by
 have h1:=bh os b b (C8 _)
 rw [Da (by rw [aS]; exact C8 _)] at h1
 rw [h1]
 unfold ai
 rw [GY]
 intro o ho
 simpa using h o ho
end L2
open L2.Nx renaming mk→MX
open L2.Same renaming refl→MW
namespace HT
open PySem PyProof.Rows
section
open PySem.SeqAt
open PySem.AutoSeq1 (wpAny_loadPart')
open PySem.MeetsSeq PySem.MeetsSeq2 PySem.MeetsSeq3
end
section
variable {prog:Program} {w:World} {A:Around} {E:Value->Shared->Prop} {s:Shared}
end
end HT
namespace L2
open PySem PySem.Spec PyProof.Rows
section
variable {X:Cx} {e e2 o:Expr} {to te:TE} {t:TA} {pos apos cpos:Pos}
theorem BK {K:C7} (hK:X.K=K:=by rfl):QIx X (rIx K):=by subst hK; exact ⟨zm⟩
end
noncomputable def DatAt:Nat->Hp->V->PyData->Prop
 | 0,_,x,d=>∃ i:Int,x=.int i/\d=.int i/\i.natAbs<10 ^ 12
 | n+1,H,x,d=>(∃ i:Int,x=.int i/\d=.int i/\i.natAbs<10 ^ 12)\/(∃ a xs ds,x=.ref a/\d=.list ds/\H a=some (.lst xs)/\xs.length=ds.length/\∀ (i:Nat) u e,xs[i]? = some u->ds[i]? = some e->DatAt n H u e)\/
  (∃ a xs ds,x=.ref a/\d=.tuple ds/\H a=some (.tup xs)/\xs.length=ds.length/\∀ (i:Nat) u e,xs[i]? = some u->ds[i]? = some e->DatAt n H u e)
theorem DatAt.same {H H1:Hp} (s:Same H H1):∀ {n:Nat} {x:V} {d:PyData},DatAt n H x d->DatAt n H1 x d
 | 0,_,_,h=>h
 | n+1,_,_,h=>by
  rcases h with h | ⟨a,xs,ds,rfl,rfl,ha,hl,hi⟩ | ⟨a,xs,ds,rfl,rfl,ha,hl,hi⟩
  ·exact .inl h
  ·exact .inr (.inl ⟨a,xs,ds,rfl,rfl,s _ _ ha,hl,λ i u v e1 e2=>DatAt.same s (hi i u v e1 e2)⟩)
  ·exact .inr (.inr ⟨a,xs,ds,rfl,rfl,s _ _ ha,hl,λ i u v e1 e2=>DatAt.same s (hi i u v e1 e2)⟩)
theorem jp {P:PyData->Bool} {PA:List PyData->Bool} (h0:PA []=true) (h1:∀ x xs,PA (x::xs)=(P x && PA xs)):∀ {ds:List PyData},(∀ d∈ds,P d=true)->PA ds=true
 | [],_=>h0
 | d::ds,h=>by rw [h1,h d (DF ..),jp h0 h1 λ x hx=>h x (DE _ hx)]; rfl
theorem cO {n:Nat}:∀ {ds:List PyData},(∀ d∈ds,d.depth<=n)->KD ds<=n
 | [],_=>Du _
 | d::ds,h=>by
  show max d.depth (KD ds)<=n
  have h1:=h d (DF ..)
  have h2:=cO (ds:=ds) λ x hx=>h x (DE _ hx)
  lia
theorem dM:∀ {ds:List PyData},(∀ d∈ds,d.hasDict=false)->JY ds=false
 | [],_=>rfl
 | d::ds,h=>by
  show (d.hasDict || JY ds)=false
  rw [h d (DF ..),dM λ x hx=>h x (DE _ hx)]; rfl
theorem DatAt.facts {H:Hp}:∀ {n:Nat} {x:V} {d:PyData},DatAt n H x d->d.showable=true/\d.hasDict=false/\d.depth<=n/\Fe 13 d=true
 | n,x,d,h=>by
  have hint:(∃ i:Int,x=.int i/\d=.int i/\i.natAbs<10 ^ 12)->d.showable=true/\d.hasDict=false/\d.depth<=n/\Fe 13 d=true:=by
   rintro ⟨i,rfl,rfl,hi⟩
   refine ⟨?_,rfl,Du _,?_⟩
   ·unfold IT
    refine decide_eq_true ?_
    by_cases h0:i.natAbs=0
    ·rw [h0]; decide
    ·have:i.natAbs<2 ^ 40:=IG hi (by decide)
     have:=(Hl h0).mpr this
     lia
   ·unfold Fe
    exact decide_eq_true (PyData.shown_int_le hi)
  match n,h with
  | 0,h=>exact hint h
  | n+1,h=>
   rcases h with h | ⟨a,xs,ds,rfl,rfl,ha,hl,hi⟩ | ⟨a,xs,ds,rfl,rfl,ha,hl,hi⟩
   ·exact hint h
   ·have hd:∀ d∈ds,d.showable=true/\d.hasDict=false/\d.depth<=n/\Fe 13 d=true:=λ d hd=>by
     obtain ⟨i,e⟩:=FL hd
     have hlt:=aR e
     exact DatAt.facts (hi i (xs[i]'(by lia)) d (C4 _) e)
    exact ⟨jp (P:=IT) (PA:=JJ) rfl (λ _ _=>rfl) λ d h=>(hd d h).1,dM λ d h=>(hd d h).2.1,GS (cO λ d h=>(hd d h).2.2.1),jp (P:=Fe 13) (PA:=Jd 13) rfl (λ _ _=>rfl) λ d h=>(hd d h).2.2.2⟩
   ·have hd:∀ d∈ds,d.showable=true/\d.hasDict=false/\d.depth<=n/\Fe 13 d=true:=λ d hd=>by
     obtain ⟨i,e⟩:=FL hd
     have hlt:=aR e
     exact DatAt.facts (hi i (xs[i]'(by lia)) d (C4 _) e)
    exact ⟨jp (P:=IT) (PA:=JJ) rfl (λ _ _=>rfl) λ d h=>(hd d h).1,dM λ d h=>(hd d h).2.1,GS (cO λ d h=>(hd d h).2.2.1),jp (P:=Fe 13) (PA:=Jd 13) rfl (λ _ _=>rfl) λ d h=>(hd d h).2.2.2⟩
section
variable {X:Cx} {pins:List (Addr×Obj)} {σ:St} {H:Hp} {s:Shared}
theorem cP {R:V->PyData->Prop} {h:Heap} (hR:∀ x v d,R x d->RelV x v->∃ as,Reads h v d as):∀ {xs:List V} {its:List Value} {ds:List PyData},Vals xs its->xs.length=ds.length->(∀ (i:Nat) u e,xs[i]? = some u->ds[i]? = some e->R u e)->∃ as,ReadsAll h its ds as
 | _,_,[],.nil,_,_=>⟨[],.nil⟩
 | _,_,d::ds,.cons r rr,hl,hi=>by
  obtain ⟨as,h1⟩:=hR _ _ d (hi 0 _ d rfl rfl) r
  obtain ⟨bs,h2⟩:=cP hR rr (by simpa using hl) λ i u e e1 e2=>hi (i+1) u e e1 e2
  exact ⟨as++bs,.cons h1 h2⟩
 | _,_,_::_,.nil,hl,_=>by simp at hl
 | _,_,[],.cons _ _,hl,_=>by simp at hl
theorem DatAt.reads (I:Inv X pins σ H s):∀ {n:Nat} {x:V} {d:PyData} {v:Value},DatAt n H x d->RelV x v->∃ as,Reads s.heap v d as
 | n,x,d,v,h,r=>by
  have hint:(∃ i:Int,x=.int i/\d=.int i/\i.natAbs<10 ^ 12)->∃ as,Reads s.heap v d as:=by
   rintro ⟨i,rfl,rfl,hi⟩
   obtain ⟨t,rfl⟩:=r
   exact ⟨_,.int i t⟩
  match n,h with
  | 0,h=>exact hint h
  | n+1,h=>
   rcases h with h | ⟨a,xs,ds,rfl,rfl,ha,hl,hi⟩ | ⟨a,xs,ds,rfl,rfl,ha,hl,hi⟩
   ·exact hint h
   ·cases r
    obtain ⟨its,m,rv,ho,hz⟩:=I.lst ha
    obtain ⟨as,h1⟩:=cP (R:=DatAt n H) (λ x v d h r=>DatAt.reads I h r) rv hl hi
    exact ⟨_,.list ho rfl rfl (by simpa using h1)⟩
   ·cases r
    obtain ⟨its,rv,⟨ob,ho,hc,m,hd⟩,hz⟩:=I.tuple (MR ha)
    obtain ⟨as,h1⟩:=cP (R:=DatAt n H) (λ x v d h r=>DatAt.reads I h r) rv hl hi
    exact ⟨_,.tuple ho hc hd (by simpa using h1)⟩
def xx:List V->Hp->VK->Prop:=λ xs H Q=>∃ (a:Addr) (d:PyData),xs=[.ref a]/\DatAt 3 H (.ref a) d/\d.weight<=2 ^ 20/\Q (.str d.shown) H
theorem xz (hg:X.A.guards=some []) (hu:X.A.units+64<cLine):dh X (.type "str") xx:=by
 intro pins s σ H xs us Q I r h
 obtain ⟨a,d,rfl,hd,hw,q⟩:=h
 obtain ⟨u,rfl,ru⟩:=kE r
 obtain ⟨as,h1⟩:=hd.reads I ru
 cases ru
 obtain ⟨f1,f2,f3,f4⟩:=hd.facts
 refine str_of_reads h1 f1 (λ z=>by rw [f2] at z; cases z) hg (by lia) (λ b o e=>e) (λ h' u tk hk=>?_) (PyData.shown_fits (by decide) (by decide) f4 hw)
 exact ⟨.str d.shown,H,I.kept hk,⟨u,rfl⟩,q⟩
theorem kY (hg:X.A.guards=some []) (hu:X.A.units+64<cLine):QC X (.type "str") xx:=⟨xz hg hu⟩
end
section
variable {K:C7} {σ:St} {H:Hp} {Q:VK}
theorem kZ {d:PyData} (h1:DatAt 3 H (.ref a) d) (h2:d.weight<=2 ^ 20) (h:Q (.str d.shown) H):xx [.ref a] H Q:=⟨a,d,rfl,h1,h2,h⟩
theorem zP {p:Addr} {i:Int} (s:H p=some (.lst xs)\/H p=some (.tup xs)) (a:atI xs i=some v) (h:Q v H):rIx K (.ref p) (.int i) H Q:=
 s.elim (λ s=>.inl (br (MQ s) a h)) (λ s=>.inr (.inl (gr (MR s) a h)))
end
noncomputable def cQ (a:List Nat):List Int:=a.map λ x:Nat=>(x:Int)
noncomputable def lxt (a b:List Nat):Bool:=HT.cC (cQ a) (cQ b)
theorem dc (x y:Nat) (a b:List Nat):lxt (x::a) (y::b)=if x=y then lxt a b else decide (x<y):=by
 unfold lxt cQ
 rw [Er,Er,HT.dz]
 by_cases h:x=y
 ·rw [if_pos h,if_pos (by rw [h])]
 ·rw [if_neg h,if_neg (by lia)]
  exact decide_eq_decide.mpr (by lia)
theorem dF (a:List Nat):lxt a a=false:=by
 induction a with
 | nil=>rfl
 | cons x a ih=>rw [dc,if_pos rfl,ih]
theorem re {a b c:List Nat} (h1:lxt a b=true) (h2:lxt b c=true):lxt a c=true:=by
 induction a generalizing b c with
 | nil=>
  cases b with
  | nil=>cases h1
  | cons y b=>cases c with
   | nil=>cases h2
   | cons z c=>rfl
 | cons x a ih=>
  cases b with
  | nil=>cases h1
  | cons y b=>
   cases c with
   | nil=>cases h2
   | cons z c=>
    rw [dc] at h1 h2 ⊢
    by_cases e1:x=y
    ·subst e1
     rw [if_pos rfl] at h1
     by_cases e2:x=z
     ·rw [if_pos e2] at h2 ⊢; exact ih h1 h2
     ·rw [if_neg e2] at h2 ⊢; exact h2
    ·rw [if_neg e1] at h1
     have h1:=of_decide_eq_true h1
     by_cases e2:y=z
     ·subst e2; rw [if_neg e1]; exact decide_eq_true h1
     ·rw [if_neg e2] at h2
      have h2:=of_decide_eq_true h2
      rw [if_neg (by lia)]; exact decide_eq_true (by lia)
theorem rf (a b:List Nat):lxt a b=true\/a=b\/lxt b a=true:=by
 induction a generalizing b with
 | nil=>cases b with
  | nil=>exact .inr (.inl rfl)
  | cons y b=>exact .inl rfl
 | cons x a ih=>
  cases b with
  | nil=>exact .inr (.inr rfl)
  | cons y b=>
   rw [dc,dc]
   by_cases e:x=y
   ·subst e
    rw [if_pos rfl,if_pos rfl]
    rcases ih b with h | h | h
    ·exact .inl h
    ·exact .inr (.inl (by rw [h]))
    ·exact .inr (.inr h)
   ·rw [if_neg e,if_neg (DX e)]
    rcases Hy e with h | h
    ·exact .inl (decide_eq_true h)
    ·exact .inr (.inr (decide_eq_true h))
theorem me {a b:List Nat} (h1:lxt a b=true) (h2:lxt b a=true):False:=by
 have:=re h1 h2
 rw [dF] at this; cases this
def Rk (rss:List (List Nat)) (c i j:Nat):Prop:=lxt ((rss.getD i []).drop c) ((rss.getD j []).drop c)=true\/((rss.getD i []).drop c=(rss.getD j []).drop c/\i<j)
theorem Rk.asymm {rss:List (List Nat)} (h1:Rk rss c i j) (h2:Rk rss c j i):False:=by
 rcases h1 with h1 | ⟨e1,l1⟩
 ·rcases h2 with h2 | ⟨e2,l2⟩
  ·exact me h1 h2
  ·rw [e2,dF] at h1; cases h1
 ·rcases h2 with h2 | ⟨e2,l2⟩
  ·rw [e1,dF] at h2; cases h2
  ·lia
theorem g8 {α:Type} {R:α->α->Prop} (ha:∀ a b,R a b->R b a->False):∀ {xs ys:List α},xs.Perm ys->xs.Pairwise R->ys.Pairwise R->xs=ys
 | [],ys,hp,_,_=>by have:=hp.length_eq; exact (Eo.mp this.symm).symm
 | x::xs,[],hp,_,_=>by have:=hp.length_eq; simp at this
 | x::xs,y::ys,hp,h1,h2=>by
  have e:x=y:=by
   rcases Dx.mp (hp.mem_iff.mp (DF ..)) with h | h
   ·exact h
   ·rcases Dx.mp (hp.mem_iff.mpr (DF ..)) with g | g
    ·exact g.symm
    ·exact (ha x y ((Em.mp h1).1 y g) ((Em.mp h2).1 x h)).elim
  subst e
  rw [g8 ha (List.perm_cons x |>.mp hp) (Em.mp h1).2 (Em.mp h2).2]
theorem hE {os:List Nat} {x y:Nat} (h:∀ o∈os,o<b) (hp:¬ bD (cnt os b)=true) (hx:x∈os) (hy:y∈os):x=y:=by
 have hl:(iU (cnt os b)).length=((C9 b).filter λ f=>decide (0<os.count f)).length:=by
  unfold iU cnt
  rw [KE,C6]; rfl
 have hm:∀ z,z∈os->z∈(C9 b).filter λ f=>decide (0<os.count f):=λ z hz=>Ee.mpr ⟨DN.mpr (h z hz),decide_eq_true (List.count_pos_iff.mpr hz)⟩
 have h1:((C9 b).filter λ f=>decide (0<os.count f)).length<=1:=by
  rw [<-hl]
  unfold bD at hp
  have:=of_decide_eq_false (JZ.mpr hp)
  lia
 have g1:=hm x hx
 have g2:=hm y hy
 generalize (C9 b).filter (λ f=>decide (0<os.count f))=l at h1 g1 g2
 match l,h1,g1,g2 with
 | [z],_,g1,g2=>rw [Dk.mp g1,Dk.mp g2]
 | _::_::_,h1,_,_=>simp at h1
section
variable {X:Cx} {o a b e:Expr} {to ta tb te:TE} {pos p2 tpos:Pos}
def BL (to ta tb:TE):TG:=λ v σ H R=>to σ H λ x H1=>ta σ H1 λ y H2=>tb σ H2 λ z H3=>∃ (l c:Addr) (xs ys:List V) (i j:Int),x=.ref l/\v=.ref c/\y=.int i/\z=.int j/\H3 l=some (.lst xs)/\H3 c=some (.lst ys)/\l≠c/\0<=i/\i<=j/\j<=xs.length/\xs.length+ys.length<=sizeLine/\R σ (upd H3 l (.lst (xs.take i.toNat++ys++xs.drop j.toNat)))
theorem zQ (ho:PE X o to) (ha:PE X a ta) (hb:PE X b tb)
  (has:∀ v,assign (.Subscript o (.Slice (some a) (some b) none p2) pos) X.env v=(do
   let ov <-holding [v] (eval o X.env)
   let iv <-holding [v,ov] (eval (.Slice (some a) (some b) none p2) X.env)
   standAt pos
   holding [v,ov,iv] (setItem ov iv v)
   release [iv,v,ov] []):=by intro _; rfl):PG X (.Subscript o (.Slice (some a) (some b) none p2) pos) (BL to ta tb):=by
 intro pins s σ H v u Q I r h
 rw [has]
 refine wpAny_bind (wpAny_holding (thn (ho pins s σ H _ I h) λ ov s1 ⟨x,H1,I1,r1,q1⟩=>?_))
 refine wpAny_bind (wpAny_holding (wpAny_Slice (evalPart_some_step (thn (ha pins s1 σ H1 _ I1 q1) λ iv s2 ⟨y,H2,I2,r2,q2⟩=>?_))))
 refine evalPart_some_step (thn (hb pins s2 σ H2 _ I2 q2) λ jv s3 ⟨z,H3,I3,r3,q3⟩=>?_)
 refine evalPart_none_step ?_
 obtain ⟨l,c,xs,ys,i,j,rfl,rfl,rfl,rfl,hl,hc,hne,h0,hij,hj,hz,q⟩:=q3
 cases r1; cases r
 have I4:Inv X pins σ H3 { s3 with heap:=s3.heap.push { cls:=.type "slice",data:=.fields #[iv,jv,.none] } }:=I3.kept (t':=s3.toks) λ b ob q=>Dd _ q
 refine wpAny_bind (wpAny_standAt (wpAny_bind (wpAny_holding (qB I4 hl hc hne (Ht ..) r2 r3 h0 hij hj hz λ s' I'=>?_))))
 exact wpAny_release ⟨σ,_,I',q⟩
theorem rg (he:QE X e te) (ho:QE X o to) (ha:QE X a ta) (hb:QE X b tb)
  (has:∀ v,assign (.Subscript o (.Slice (some a) (some b) none p2) tpos) X.env v=(do
   let ov <-holding [v] (eval o X.env)
   let iv <-holding [v,ov] (eval (.Slice (some a) (some b) none p2) X.env)
   standAt tpos
   holding [v,ov,iv] (setItem ov iv v)
   release [iv,v,ov] []):=by intro _; rfl)
  (hs:swapsWithSole [.Subscript o (.Slice (some a) (some b) none p2) tpos] e pos.line X.env=pure false:=by rfl) (hw:swappedStores [.Subscript o (.Slice (some a) (some b) none p2) tpos] e X.env=pure none:=by rfl)
  (h1:(assignEach [.Subscript o (.Slice (some a) (some b) none p2) tpos] X.env).map (·.2)=[assign (.Subscript o (.Slice (some a) (some b) none p2) tpos) X.env]:=by rfl) :
  QS X (.Assign [.Subscript o (.Slice (some a) (some b) none p2) tpos] e pos) (t5 te (BL to ta tb)):=⟨p6 he.out (zQ ho.out ha.out hb.out has) hs hw h1⟩
theorem xA:QS X (.Continue pos) wn:=⟨mQ⟩
end
section
variable {K:C7} {σ:St} {H:Hp} {Q:VK} {D:Ends}
theorem BM {tb:TE} {R:St->Hp->Prop} (h:to σ H λ x H1=>ta σ H1 λ y H2=>tb σ H2 λ z H3=>∃ (l c:Addr) (xs ys:List V) (i j:Int),x=.ref l/\v=.ref c/\y=.int i/\z=.int j/\H3 l=some (.lst xs)/\H3 c=some (.lst ys)/\l≠c/\0<=i/\i<=j/\j<=xs.length/\xs.length+ys.length<=sizeLine/\R σ (upd H3 l (.lst (xs.take i.toNat++ys++xs.drop j.toNat)))):BL to ta tb v σ H R:=h
theorem BN (h:D.ct σ H):wn D σ H:=h
theorem k4 {p:Addr} {x z:V} {R:St->Hp->Prop} (e:H p=some (.tup [x,y,z])) (h:R (((σ.set i (some x)).set j (some y)).set k (some z)) H):AA K 3 (iJ (eO i) (iJ (eO j) (iJ (eO k) yN))) (.ref p) σ H R:=
 ⟨p,_,rfl,MR e,rfl,_,_,rfl,_,_,rfl,_,_,rfl,rfl,h⟩
theorem rh {l c:Addr} (h1:H l=some (.lst xs)) (h2:H c=some (.lst ys)) (hz:xs.length+ys.length<=sizeLine) (h:Q .non (upd H l (.lst (xs++ys)))):mV (.ref l) [.ref c] H Q:=⟨l,c,xs,ys,rfl,rfl,h1,h2,hz,h⟩
theorem mf {l:Addr} (h1:H l=some (.lst (xs++[y]))) (h:Q y (upd H l (.lst xs))):Bj (.ref l) [] H Q:=⟨l,_,y,rfl,rfl,h1,by simp,by rw [List.dropLast_concat]; exact h⟩
end
theorem nV:∀ {c:Nat} {a b:List Nat},a.take c=b.take c->c<a.length->c<b.length->a.getD c 0<b.getD c 0->lxt a b=true
 | 0,x::a,y::b,_,_,_,h=>by rw [dc,if_neg (by simp at h; lia)]; exact decide_eq_true (by simpa using h)
 | c+1,x::a,y::b,e,h1,h2,h=>by
  rw [GA,GA] at e
  injection e with e1 e2
  rw [dc,if_pos e1]
  exact nV e2 (by simpa using h1) (by simpa using h2) (by simpa using h)
 | _,[],_,_,h1,_,_=>by simp at h1
 | _,_::_,[],_,_,h2,_=>by simp at h2
theorem nW {os:List Nat} {g:Nat} (hk:k<os.length) (h1:ai os g<=eE os k) (h2:eE os k<ai os (g+1)):os.getD k 0=g:=by
 have r1:=gA hk
 have r2:ai os (os.getD k 0)<=eE os k:=by unfold eE; lia
 rcases EL (os.getD k 0) g with h | h | h
 ·have:=bn (os:=os) (f:=os.getD k 0+1) (g:=g) h; lia
 ·exact h
 ·have:=bn (os:=os) (f:=g+1) (g:=os.getD k 0) h; lia
noncomputable abbrev ce:=Nat×Nat×Nat
structure Msd (rss:List (List Nat)) (C:Nat) (os:List Nat) (ws:List ce):Prop where
 perm:os.Perm (C9 rss.length)
 ok:∀ s∈ws,s.1<=s.2.1/\s.2.1<=rss.length/\s.2.2<=C
 dis:ws.Pairwise λ s t=>s.2.1<=t.1\/t.2.1<=s.1
 like:∀ s∈ws,∀ i j,s.1<=i->i<j->j<s.2.1->(rss.getD (os.getD i 0) []).take s.2.2=(rss.getD (os.getD j 0) []).take s.2.2/\os.getD i 0<os.getD j 0
 rest:∀ i j,i<j->j<rss.length->Rk rss 0 (os.getD i 0) (os.getD j 0)\/∃ s∈ws,s.1<=i/\j<s.2.1
theorem Msd.ok' {rss:List (List Nat)} {C:Nat} {os:List Nat} {ws:List ce} (h:Msd rss C os ws):∀ s∈ws,s.2.2<=C:=λ s hs=>(h.ok s hs).2.2
theorem kj (h:i<n):(C9 n).getD i 0=i:=by rw [C5,Eg h]; rfl
theorem Msd.start (rss:List (List Nat)) (C:Nat):Msd rss C (C9 rss.length) [(0,rss.length,0)]:=by
 refine ⟨D0 _,λ s hs=>?_,Ga ..,λ s hs i j h1 h2 h3=>?_,λ i j h1 h2=>.inr ⟨_,Dk.mpr rfl,Du _,h2⟩⟩
 ·rw [Dk.mp hs]; exact ⟨Du _,C8 _,Du _⟩
 ·rw [Dk.mp hs] at h1 h3 ⊢
  have h3:j<rss.length:=h3
  rw [kj h3,kj (by lia:i<rss.length)]
  exact ⟨rfl,h2⟩
theorem Msd.done {rss:List (List Nat)} {C:Nat} {os:List Nat} (h:Msd rss C os []):os.Pairwise (Rk rss 0):=by
 have hl:os.length=rss.length:=by have:=h.perm.length_eq; simpa using this
 rw [DK]
 intro i j hi hj hij
 have e1:os.getD i 0=os[i]:=by rw [C5,C4 hi]; rfl
 have e2:os.getD j 0=os[j]:=by rw [C5,C4 hj]; rfl
 rcases h.rest i j hij (by lia) with g | ⟨s,hs,_⟩
 ·rw [e1,e2] at g; exact g
 ·cases hs
theorem Msd.at {rss:List (List Nat)} {C:Nat} {os:List Nat} {ws:List ce} (h:Msd rss C os ws) (hi:i<rss.length):os.getD i 0<rss.length:=by
 have hl:os.length=rss.length:=by have:=h.perm.length_eq; simpa using this
 have hi':i<os.length:=by lia
 rw [C5,C4 hi']
 simpa using h.perm.mem_iff.mp (Dl hi')
theorem hJ {rss:List (List Nat)} {C p:Nat} (hw:∀ r∈rss,r.length=C) (hp:p<rss.length):(rss.getD p []).length=C:=by
 rw [C5,C4 hp]
 exact hw _ (Dl hp)
theorem Msd.skip {rss:List (List Nat)} {C:Nat} {os:List Nat} {ws:List ce} (h:Msd rss C os (ws++[(f,l,c)])) (hw:∀ r∈rss,r.length=C) (hs:l<f+2\/c=C):Msd rss C os ws:=by
 have hm:(f,l,c)∈ws++[(f,l,c)]:=Dj _ (Dk.mpr rfl)
 refine ⟨h.perm,λ s hs=>h.ok s (D3 _ hs),(Dq.mp h.dis).1,λ s hs=>h.like s (D3 _ hs),λ i j hij hj=>?_⟩
 rcases h.rest i j hij hj with g | ⟨s,hs',h1,h2⟩
 ·exact .inl g
 ·rcases DG.mp hs' with g | g
  ·exact .inr ⟨s,g,h1,h2⟩
  ·rw [Dk.mp g] at h1 h2
   have h1:f<=i:=h1
   have h2:j<l:=h2
   rcases hs with hs | hs
   ·lia
   ·obtain ⟨e1,e2⟩:=h.like _ hm i j h1 hij h2
    left; right
    rw [DZ,DZ]
    have e1:(rss.getD (os.getD i 0) []).take c=(rss.getD (os.getD j 0) []).take c:=e1
    rw [Da (by rw [hJ hw (h.at (by lia))]; lia),Da (by rw [hJ hw (h.at hj)]; lia)] at e1
    exact ⟨e1,e2⟩
noncomputable def aF (f:Nat) (cs:List Nat) (c:Nat):List ce:=(C9 cs.length).map λ g=>(f+(cs.take g).sum,f+(cs.take g).sum+cs.getD g 0,c)
theorem cG {s:ce} (h:s∈aF f (cnt row b) c):∃ g,g<b/\s=(f+ai row g,f+ai row (g+1),c):=by
 unfold aF at h
 obtain ⟨g,hg,rfl⟩:=DM.mp h
 rw [aS,DN] at hg
 refine ⟨g,hg,?_⟩
 rw [bh row b g (by lia),aM,C5,bU hg,Gc]; rfl
theorem kl {g:Nat} (hg:g<b):(f+ai row g,f+ai row (g+1),c)∈aF f (cnt row b) c:=by
 unfold aF
 refine DM.mpr ⟨g,DN.mpr (by rw [aS]; exact hg),?_⟩
 rw [bh row b g (by lia),aM,C5,bU hg,Gc]; rfl
theorem partsF_dis:(aF f (cnt row b) c).Pairwise λ s t=>s.2.1<=t.1\/t.2.1<=s.1:=by
 unfold aF
 rw [Fk]
 refine LN (λ {g h} hg hh hgh=>?_) GQ
 rw [aS,DN] at hg hh
 left
 have e:(cnt row b).getD g 0=row.count g:=by rw [C5,bU hg]; rfl
 show f+((cnt row b).take g).sum+(cnt row b).getD g 0<=f+((cnt row b).take h).sum
 rw [bh row b g (by lia),bh row b h (by lia),e]
 have:=bn (os:=row) (f:=g+1) (g:=h) hgh
 rw [aM] at this
 lia
theorem Msd.step {rss:List (List Nat)} {C b:Nat} {os ob:List Nat} {ws:List ce} {f l c:Nat} (h:Msd rss C os (ws++[(f,l,c)])) (hw:∀ r∈rss,r.length=C) (hc:c<C) (hb:∀ o∈fz rss c,o<b)
  (hB:ByF (((os.drop f).take (l - f)).map λ p=>(fz rss c).getD p 0) ob):Msd rss C (os.take f++cmp ((os.drop f).take (l - f)) ob++os.drop l) (ws++(aF f (cnt (((os.drop f).take (l - f)).map λ p=>(fz rss c).getD p 0) b) (c+1)).reverse):=by
 have hm:(f,l,c)∈ws++[(f,l,c)]:=Dj _ (Dk.mpr rfl)
 obtain ⟨hfl,hln,_⟩:=h.ok _ hm
 have hfl:f<=l:=hfl
 have hln:l<=rss.length:=hln
 have hol:os.length=rss.length:=by have:=h.perm.length_eq; simpa using this
 have hsl:((os.drop f).take (l - f)).length=l - f:=by rw [Df,DU]; lia
 have hrl:(((os.drop f).take (l - f)).map λ p=>(fz rss c).getD p 0).length=l - f:=by rw [C6,hsl]
 have hO:=hB.ord
 rw [hrl] at hO
 have hrise:=hB.rise
 have hold:=h.like _ hm
 have hold:∀ i j,f<=i->i<j->j<l->(rss.getD (os.getD i 0) []).take c=(rss.getD (os.getD j 0) []).take c/\os.getD i 0<os.getD j 0:=hold
 have segD:∀ k,k<l - f->((os.drop f).take (l - f)).getD k 0=os.getD (f+k) 0:=λ k hk=>by
  rw [C5,D6 hk,EA,C5]
 have rowDk:∀ k,k<l - f->(((os.drop f).take (l - f)).map λ p=>(fz rss c).getD p 0).getD k 0=(fz rss c).getD (os.getD (f+k) 0) 0:=λ k hk=>by
  rw [C5,De,<-segD k hk,C5 (l:=(os.drop f).take (l - f)),C4 (by lia:k<((os.drop f).take (l - f)).length)]; rfl
 have hfig:∀ k,k<l - f->(rss.getD (os.getD (f+k) 0) []).getD c 0=(fz rss c).getD (os.getD (f+k) 0) 0:=λ k hk=>by
  have:=h.at (i:=f+k) (by lia)
  unfold fz
  rw [C5 (l:=rss.map _),De,C4 this,C5 (l:=rss),C4 this]; rfl
 -- where each comes from
 have hpi:∀ i,i<rss.length->(f<=i/\i<l->∃ k,k<l - f/\ob[i - f]? = some k/\i - f=eE (((os.drop f).take (l - f)).map λ p=>(fz rss c).getD p 0) k/\(os.take f++cmp ((os.drop f).take (l - f)) ob++os.drop l).getD i 0=os.getD (f+k) 0)/\(¬ (f<=i/\i<l)->(os.take f++cmp ((os.drop f).take (l - f)) ob++os.drop l).getD i 0=os.getD i 0):=by
  intro i hi
  have hcl:(cmp ((os.drop f).take (l - f)) ob).length=l - f:=by rw [kT,hO.len]
  have htl:(os.take f).length=f:=by rw [Df]; lia
  constructor
  ·rintro ⟨h1,h2⟩
   obtain ⟨k,hk,hkl⟩:=hO.get (i:=i - f) (by lia)
   refine ⟨k,hkl,hk,(hB.get hk).2,?_⟩
   rw [C5,Do (by rw [Dg,htl,hcl]; lia),Dy (by rw [htl]; exact h1),htl,qS hk (r:=((os.drop f).take (l - f))[k]'(by lia)) (C4 _)]
   rw [<-segD k hkl,C5,C4 (by lia)]
  ·intro hn
   by_cases h1:i<f
   ·rw [C5,Do (by rw [Dg,htl]; lia),Do (by rw [htl]; exact h1),D6 h1,C5]
   ·rw [C5,Dy (by rw [Dg,htl,hcl]; lia),Dg,htl,hcl,EA,C5]
    congr 2; lia
 have hdis:∀ s∈ws,s.2.1<=f\/l<=s.1:=λ s hs=>by
  have:=(Dq.mp h.dis).2.2 s hs (f,l,c) (Dk.mpr rfl)
  exact this
 have hlik:∀ k1 k2,k1<l - f->k2<l - f->k1≠k2->(rss.getD (os.getD (f+k1) 0) []).take c=(rss.getD (os.getD (f+k2) 0) []).take c:=λ k1 k2 h1 h2 hne=>by
  rcases Hy hne with g | g
  ·exact (hold (f+k1) (f+k2) (by lia) (by lia) (by lia)).1
  ·exact (hold (f+k2) (f+k1) (by lia) (by lia) (by lia)).1.symm
 generalize hrow:((os.drop f).take (l - f)).map (λ p=>(fz rss c).getD p 0)=row at *
 have hrlt:∀ k,k<l - f->row.getD k 0<b:=λ k hk=>by
  rw [rowDk k hk]
  have:=h.at (i:=f+k) (by lia)
  have h':os.getD (f+k) 0<(fz rss c).length:=by simpa [fz] using this
  rw [C5,C4 h']
  exact hb _ (Dl h')
 have rise:∀ i j k1 k2,i<j->ob[i]? = some k1->ob[j]? = some k2->row.getD k1 0<row.getD k2 0\/row.getD k1 0=row.getD k2 0/\k1<k2:=λ i j k1 k2 hij e1 e2=>by
  obtain ⟨a1,a2⟩:=DQ.mp e1
  obtain ⟨b1,b2⟩:=DQ.mp e2
  have:=DK.mp hrise i j a1 b1 hij
  rw [a2,b2] at this; exact this
 generalize hos':os.take f++cmp ((os.drop f).take (l - f)) ob++os.drop l=os' at *
 refine ⟨?_,λ s hs=>?_,?_,λ s hs i j h1 h2 h3=>?_,λ i j hij hj=>?_⟩
 ·rw [<-hos']
  refine Fi ?_ h.perm
  have e:os=os.take f++(os.drop f).take (l - f)++os.drop l:=by
   have e1:os.drop l=(os.drop f).drop (l - f):=by rw [Hh]; congr 1; lia
   rw [e1,DH,DP,DP]
  conv=>rhs; rw [e]
  refine IX _ (FB _ ?_)
  exact kX (by rw [hsl]; exact hO.perm)
 ·rcases DG.mp hs with g | g
  ·exact h.ok s (D3 _ g)
  ·obtain ⟨z,hz,rfl⟩:=cG (ET.mp g)
   have:=bn (os:=row) (f:=z) (g:=z+1) (by lia)
   have:=c9 row (z+1)
   exact ⟨by show f+_<=f+_; lia,by show f+_<=_; lia,hc⟩
 ·rw [Dq]
  refine ⟨(Dq.mp h.dis).1,?_,λ s hs t ht=>?_⟩
  ·rw [Je]
   exact partsF_dis.imp λ {s t} g=>g.symm
  ·obtain ⟨z,hz,rfl⟩:=cG (ET.mp ht)
   have:=c9 row (z+1)
   rcases hdis s hs with g | g
   ·left; show s.2.1<=f+_; lia
   ·right; show f+_<=s.1; lia
 ·rcases DG.mp hs with g | g
  ·have:=(h.ok s (D3 _ g)).2.1
   have hd:=hdis s g
   rw [(hpi i (by lia)).2 (by lia),(hpi j (by lia)).2 (by lia)]
   exact h.like s (D3 _ g) i j h1 h2 h3
  ·obtain ⟨z,hz,rfl⟩:=cG (ET.mp g)
   have h1:f+ai row z<=i:=h1
   have h3:j<f+ai row (z+1):=h3
   have hle:=c9 row (z+1)
   obtain ⟨k1,hk1,o1,p1,e1⟩:=(hpi i (by lia)).1 ⟨by lia,by lia⟩
   obtain ⟨k2,hk2,o2,p2,e2⟩:=(hpi j (by lia)).1 ⟨by lia,by lia⟩
   have f1:=nW (os:=row) (k:=k1) (g:=z) (by lia) (by lia) (by lia)
   have f2:=nW (os:=row) (k:=k2) (g:=z) (by lia) (by lia) (by lia)
   have hk:k1<k2:=by
    rcases rise (i - f) (j - f) k1 k2 (by lia) o1 o2 with g | ⟨_,g⟩
    ·lia
    ·exact g
   obtain ⟨t1,t2⟩:=hold (f+k1) (f+k2) (by lia) (by lia) (by lia)
   rw [e1,e2]
   refine ⟨?_,t2⟩
   show (rss.getD (os.getD (f+k1) 0) []).take (c+1)=(rss.getD (os.getD (f+k2) 0) []).take (c+1)
   have l1:=hJ hw (h.at (i:=f+k1) (by lia))
   have l2:=hJ hw (h.at (i:=f+k2) (by lia))
   have g1:=hfig k1 hk1
   have g2:=hfig k2 hk2
   rw [<-rowDk k1 hk1,f1] at g1
   rw [<-rowDk k2 hk2,f2] at g2
   rw [Dz,Dz,t1,C4 (by lia),C4 (by lia)]
   rw [C5,C4 (by lia)] at g1 g2
   simp only [Option.getD_some] at g1 g2
   rw [g1,g2]
 ·by_cases hin:f<=i/\j<l
  ·obtain ⟨k1,hk1,o1,p1,e1⟩:=(hpi i (by lia)).1 ⟨by lia,by lia⟩
   obtain ⟨k2,hk2,o2,p2,e2⟩:=(hpi j (by lia)).1 ⟨by lia,by lia⟩
   have hne:k1≠k2:=λ z=>by subst z; lia
   rcases rise (i - f) (j - f) k1 k2 (by lia) o1 o2 with g | ⟨g,gk⟩
   ·left; left
    rw [DZ,DZ,e1,e2]
    refine nV (c:=c) (hlik k1 k2 hk1 hk2 hne) (by rw [hJ hw (h.at (by lia))]; exact hc) (by rw [hJ hw (h.at (by lia))]; exact hc) ?_
    rw [hfig k1 hk1,hfig k2 hk2,<-rowDk k1 hk1,<-rowDk k2 hk2]; exact g
   ·right
    refine ⟨_,Dj _ (ET.mpr (kl (g:=row.getD k1 0) (hrlt k1 hk1))),?_,?_⟩
    ·show f+ai row (row.getD k1 0)<=i
     have:ai row (row.getD k1 0)<=eE row k1:=by unfold eE; lia
     lia
    ·show j<f+ai row (row.getD k1 0+1)
     have:=gA (os:=row) (k:=k2) (by lia)
     rw [<-g] at this
     lia
  ·-- not both within
   have hout:∀ i,i<rss.length->∃ i',os'.getD i 0=os.getD i' 0/\((f<=i/\i<l/\f<=i'/\i'<l)\/(¬ (f<=i/\i<l)/\i'=i)):=λ i hi=>by
    by_cases g:f<=i/\i<l
    ·obtain ⟨k1,hk1,o1,p1,e1⟩:=(hpi i hi).1 g
     exact ⟨f+k1,e1,.inl ⟨g.1,g.2,by lia,by lia⟩⟩
    ·exact ⟨i,(hpi i hi).2 g,.inr ⟨g,rfl⟩⟩
   obtain ⟨i',ei,hi'⟩:=hout i (by lia)
   obtain ⟨j',ej,hj'⟩:=hout j hj
   rw [ei,ej]
   have hij':i'<j':=by lia
   have hjn:j'<rss.length:=by lia
   rcases h.rest i' j' hij' hjn with g | ⟨s,hs,h1,h2⟩
   ·exact .inl g
   ·rcases DG.mp hs with g | g
    ·have hd:=hdis s g
     have hok:=h.ok s hs
     refine .inr ⟨s,D3 _ g,?_,?_⟩<;>lia
    ·rw [Dk.mp g] at h1 h2
     have h1:f<=i':=h1
     have h2:j'<l:=h2
     lia
theorem rj (h:∀ x∈row,∀ y∈row,x=y):ByF row (C9 row.length):=by
 refine ⟨by simp,λ k hk=>?_⟩
 have e0:row.getD k 0=row[k]:=by rw [C5,C4 hk]; rfl
 have e1:ai row row[k]=0:=Ft.mpr λ x hx g=>by
  have:=h x hx row[k] (Dl hk)
  have:=of_decide_eq_true g
  lia
 have e2:(row.take k).count row[k]=k:=by
  have:(row.take k).count row[k]=(row.take k).length:=List.count_eq_length.mpr λ x hx=>h row[k] (Dl hk) x (DL hx)
  rw [this,Df]; lia
 have:eE row k=k:=by unfold eE; rw [e0,e1,e2]; lia
 rw [this,Eg hk]
theorem rk (seg:List Nat) (h:seg.length=n):cmp seg (C9 n)=seg:=by
 subst h
 unfold cmp
 exact fA seg
noncomputable def k5 (b C:Nat) (ws:List ce):Nat:=(ws.map λ s=>(b+1) ^ (C+1 - s.2.2)).sum
theorem km (b C:Nat) (ws:List ce) (s:ce):k5 b C (ws++[s])=k5 b C ws+(b+1) ^ (C+1 - s.2.2):=by
 unfold k5
 rw [Dr,ER]; simp
theorem nX (b C:Nat) (ws:List ce) (s:ce):k5 b C ws<k5 b C (ws++[s]):=by
 rw [km]
 have:0<(b+1) ^ (C+1 - s.2.2):=Hm (by lia)
 lia
theorem jq {α:Type} (k:Nat) (f:α->Nat):∀ {xs:List α},(∀ x∈xs,f x=k)->(xs.map f).sum=xs.length*k
 | [],_=>by simp
 | x::xs,h=>by
  rw [Er,Es,h x (DF ..),jq k f (λ y hy=>h y (DE _ hy)),DD,IA]; lia
theorem pi {C:Nat} {cs:List Nat} (ws:List ce) (hc:c<C) (hl:cs.length=b):k5 b C (ws++(aF f cs (c+1)).reverse)<k5 b C (ws++[(f,l,c)]):=by
 rw [km]
 unfold k5
 rw [Dr,ER,jq ((b+1) ^ (C+1 - (c+1))) _ (xs:=(aF f cs (c+1)).reverse) (λ s hs=>by
  unfold aF at hs
  obtain ⟨g,_,rfl⟩:=DM.mp (ET.mp hs)
  rfl),FW]
 have e1:(aF f cs (c+1)).length=b:=by unfold aF; simp [hl]
 have e2:C+1 - c=(C+1 - (c+1))+1:=by lia
 rw [e1]
 show _<_+(b+1) ^ (C+1 - c)
 rw [e2,LO,LJ ((b+1) ^ (C+1 - (c+1))) (b+1),Nat.add_mul,Nat.one_mul]
 have:0<(b+1) ^ (C+1 - (c+1)):=Hm (by lia)
 lia
noncomputable def gB (ws:List ce):Nat:=(ws.map λ s=>s.2.1 - s.1 - 1).sum
theorem m6 (ws:List ce) (s:ce):gB (ws++[s])=gB ws+(s.2.1 - s.1 - 1):=by
 unfold gB
 rw [Dr,ER]; simp
theorem k7:∀ cs:List Nat,(cs.map λ c=>c - 1).sum+(iU cs).length=cs.sum
 | []=>rfl
 | c::cs=>by
  have ih:=k7 cs
  unfold iU at ih ⊢
  rw [Er,Es,Es]
  by_cases h:0<c
  ·rw [List.filter_cons_of_pos (by simpa using h),DD]; lia
  ·rw [List.filter_cons_of_neg (by simpa using h)]; lia
theorem mh (ws:List ce) (f c:Nat) (cs:List Nat):gB (ws++(aF f cs c).reverse)+(iU cs).length=gB ws+cs.sum:=by
 unfold gB
 rw [Dr,ER,IH,Kp]
 have e:(aF f cs c).map (λ s=>s.2.1 - s.1 - 1)=cs.map λ c=>c - 1:=by
  unfold aF
  rw [EB]
  apply Fv (by simp)
  intro i h1 h2
  have hi:i<cs.length:=by simpa using h2
  simp [C5,C4 hi]
 rw [e]
 have:=k7 cs
 lia
def Low (b:Nat) (ws:List ce):Prop:=∀ (i:Nat) s,ws[i]? = some s->i<=b*s.2.2
theorem Low.left {ws vs:List ce} (h:Low b (ws++vs)):Low b ws:=λ i s e=>h i s (by rw [Do (aR e)]; exact e)
theorem Low.step {b f l c:Nat} {ws:List ce} {cs:List Nat} (h:Low b (ws++[(f,l,c)])) (hl:cs.length=b):Low b (ws++(aF f cs (c+1)).reverse):=λ i s e=>by
 have h0:ws.length<=b*c:=h ws.length (f,l,c) (by simp)
 by_cases hi:i<ws.length
 ·exact h i s (by rw [Do hi] at e ⊢; exact e)
 ·rw [Dy (by lia)] at e
  have hm:=Ek e
  have hlt:=aR e
  unfold aF at hm hlt
  rw [FW,C6,DR,hl] at hlt
  obtain ⟨g,_,rfl⟩:=DM.mp (ET.mp hm)
  show i<=b*(c+1)
  rw [Mb,Nat.mul_one]; lia
theorem Low.len {C:Nat} {ws:List ce} (h:Low b ws) (hc:∀ s∈ws,s.2.2<=C):ws.length<=b*C+1:=by
 cases hw:ws.length with
 | zero=>lia
 | succ n=>
  have e:ws[n]? = some (ws[n]'(by lia)):=C4 _
  have h1:=h n _ e
  have h2:=hc _ (Dl (by lia:n<ws.length))
  have h3:b*(ws[n]'(by lia)).2.2<=b*C:=Hc b h2
  lia
def TrAt (H:Hp) (qs:List Addr) (ws:List ce):Prop:=qs.length=ws.length/\∀ (i:Nat) q s,qs[i]? = some q->ws[i]? = some s->H q=some (.tup [.int (s.1:Nat),.int (s.2.1:Nat),.int (s.2.2:Nat)])
theorem TrAt.same {H:Hp} {ws:List ce} (h:TrAt H qs ws) (s:Same H H1):TrAt H1 qs ws:=⟨h.1,λ i q t a b=>s _ _ (h.2 i q t a b)⟩
theorem TrAt.own {H:Hp} {ws:List ce} {l:Addr} (h:TrAt H qs ws) (hl:H l=some (.lst xs)):TrAt (upd H l (.lst ys)) qs ws:=⟨h.1,λ i q t a b=>by
 have e:=h.2 i q t a b
 rw [af (cB e hl (by intro c; cases c))]; exact e⟩
theorem TrAt.snoc {H:Hp} {ws:List ce} {s:ce} (h:TrAt H qs ws) (e:H q=some (.tup [.int (s.1:Nat),.int (s.2.1:Nat),.int (s.2.2:Nat)])):TrAt H (qs++[q]) (ws++[s]):=by
 refine ⟨by simp [h.1],λ i p y a b=>?_⟩
 rcases aN a with ⟨l,a⟩ | ⟨l,a⟩
 ·rcases aN b with ⟨_,b⟩ | ⟨l',b⟩
  ·exact h.2 i p y a b
  ·have:=h.1; lia
 ·rcases aN b with ⟨l',b⟩ | ⟨_,b⟩
  ·have:=h.1; lia
  ·rw [a,b]; exact e
theorem TrAt.app {H:Hp} {ws vs:List ce} (h:TrAt H qs ws) (g:TrAt H rs vs):TrAt H (qs++rs) (ws++vs):=by
 refine ⟨by simp [h.1,g.1],λ i p y a b=>?_⟩
 have hl:=h.1
 by_cases hi:i<qs.length
 ·rw [Do hi] at a
  rw [Do (by lia)] at b
  exact h.2 i p y a b
 ·rw [Dy (by lia)] at a
  rw [Dy (by lia),<-hl] at b
  exact g.2 _ p y a b
theorem TrAt.rev {H:Hp} {ps:List Addr} {ws:List ce} (h:TrAt H ps ws):TrAt H ps.reverse ws.reverse:=by
 refine ⟨by simp [h.1],λ i q y a b=>?_⟩
 have hl:i<ps.length:=by have:=(DQ.mp a).1; simpa using this
 rw [Jf hl] at a
 rw [Jf (by rw [<-h.1]; exact hl),<-h.1] at b
 exact h.2 _ q y a b
theorem TrAt.last {H:Hp} {ws:List ce} (h:TrAt H qs ws) (hq:qs≠[]):∃ rs q vs s,qs=rs++[q]/\ws=vs++[s]/\TrAt H rs vs/\H q=some (.tup [.int (s.1:Nat),.int (s.2.1:Nat),.int (s.2.2:Nat)]):=by
 rcases Jg qs with e | ⟨rs,q,e⟩
 ·exact absurd e hq
 ·rcases Jg ws with e2 | ⟨vs,s,e2⟩
  ·have:=h.1; rw [e,e2] at this; simp at this
  ·rw [List.concat_eq_append] at e e2
   subst e e2
   have hl:rs.length=vs.length:=by have:=h.1; simpa using this
   refine ⟨rs,q,vs,s,rfl,rfl,⟨hl,λ i p t a b=>?_⟩,?_⟩
   ·exact h.2 i p t (by rw [Do (aR a)]; exact a) (by rw [Do (aR b)]; exact b)
   ·exact h.2 rs.length q s (by simp) (by simp [hl])
theorem zR (os:List Nat) (h1:f<=l) (h2:l<=os.length):kI (NV os) (some (f:Int)) (some (l:Int))=NV ((os.drop f).take (l - f)):=by
 unfold kI
 rw [HT.eT,HT.eT,ax,E7 (by lia:f<=os.length),E7 h2]
 unfold NV
 rw [Fn,Fo]
def Sc (v:V):Prop:=v=.non\/(∃ b,v=.bl b)\/(∃ i,v=.int i)\/∃ x,v=.str x
def Th (H:Hp) (v:V):Prop:=Sc v\/∃ t xs,v=.ref t/\H t=some (.tup xs)/\0<xs.length/\xs.length<=2/\∀ x∈xs,Sc x
def ThE (H:Hp) (x y:V):Prop:=(Sc x/\y=x)\/∃ t u xs,x=.ref t/\y=.ref u/\H t=some (.tup xs)/\H u=some (.tup xs)/\0<xs.length/\xs.length<=2/\∀ z∈xs,Sc z
section
variable {X:Cx} {e e2 o:Expr} {to te:TE} {t:TA} {pos apos cpos:Pos}
inductive TyC (H:Hp):V->Value->Prop where
 | non:TyC H .non (.type "NoneType")
 | bl (b:Bool):TyC H (.bl b) (.type "bool")
 | int (i:Int):TyC H (.int i) (.type "int")
 | str (x:Str):TyC H (.str x) (.type "str")
 | lst {a:Addr} {xs:List V} (e:H a=some (.lst xs)):TyC H (.ref a) (.type "list")
 | tup {a:Addr} {xs:List V} (e:H a=some (.tup xs)):TyC H (.ref a) (.type "tuple")
def xB (K:C7):RC:=λ xs H Q=>∃ x t tp b,xs=[x,.ref tp]/\H tp=some (.tup [.ty "list",.ty "tuple"])/\TyC H x t/\PySem.W.kitAny K t [.type "list",.type "tuple"]=some b/\Q (.bl b) H
theorem xC {K:C7} (hK:X.K=K:=by rfl):QC X (.builtin "isinstance") (xB K):=by
 subst hK
 refine ⟨λ pins s σ H xs us Q I r h=>?_⟩
 obtain ⟨x,t,tp,b,rfl,htp,ty,e,q⟩:=h
 cases r with
 | cons rx rr=>
  cases rr with
  | cons ry rr=>
   cases rr
   cases ry
   obtain ⟨_,its,rv,⟨⟨c,dd,dt,sl⟩,g1,g2,n,g3⟩⟩:=(show ObjOk X.prog X.w H s.heap tp (.tup [.ty "list",.ty "tuple"]) from I.hok tp _ htp)
   have g2':c=.type "tuple":=g2
   have g3':dt=.seq its.toArray n:=g3
   subst g2' g3'
   have ei:its=[.type "list",.type "tuple"]:=by
    cases rv with
    | cons r1 rr=>
     cases rr with
     | cons r2 rr=>
      cases rr
      cases r1; cases r2; rfl
   subst ei
   have fin:∀ tk,EP X pins σ Q (.bool b) { s with toks:=tk }:=λ tk=>⟨.bl b,H,I.tok _,rfl,q⟩
   cases ty with
   | non=>cases (show _=D8 from rx); exact Gh JR I.kIn Dv g1 e (λ z=>nomatch z) fin
   | bl i=>cases (show _=Io i from rx); exact Gh JS I.kIn Dv g1 e (λ z=>nomatch z) fin
   | int i=>obtain ⟨tt,rfl⟩:=rx; exact Gh Kh I.kIn Dv g1 e (λ z=>nomatch z) fin
   | str i=>obtain ⟨tt,rfl⟩:=rx; exact Gh Ki I.kIn Dv g1 e (λ z=>nomatch z) fin
   | @lst a xs ea=>
    cases rx
    obtain ⟨_,_,n',_,h1⟩:=(show ObjOk X.prog X.w H s.heap a (.lst xs) from I.hok a _ ea)
    exact Gh Ig I.kIn ⟨_,h1,rfl⟩ g1 e (λ z=>nomatch z) fin
   | @tup a xs ea=>
    cases rx
    obtain ⟨_,_,_,⟨o',h1,h2,_⟩⟩:=(show ObjOk X.prog X.w H s.heap a (.tup xs) from I.hok a _ ea)
    exact Gh JF I.kIn ⟨_,h1,h2⟩ g1 e (λ z=>nomatch z) fin
theorem jr (l:Addr) (items:Array Value) (n:Nat) (b:Addr) (items2:Array Value) (n2:Nat) (dd2:Option Addr) (sl2:Array (Option Value)) (hlong:¬ (!items.isEmpty && E1 (items.size+items2.size))=true) (hz:items.size<=sizeLine) (hz2:items.size+items2.size<=sizeLine+1) :
  Meets (Builtin.«list.extend» ⟨[.ref l,.ref b],[]⟩)
   (λ _ R s=>s.heap.get? l=some { cls:=.type "list",data:=.seq items n }/\s.heap.get? b=some { cls:=.type "tuple",dict:=dd2,data:=.seq items2 n2,slots:=sl2 }/\
    R (.ok (.ret .none)) { s with heap:=s.heap.update l (Eu λ x=>x++items2) }):=
 .of_wp λ prog w A R s h=>by
  obtain ⟨hp,g,d,tk,os⟩:=s; obtain ⟨hl,hb,h⟩:=h
  have f2:=Iy
  wp_walk using G7 hl,G7 hb
  have e9:(Eu (λ x=>x++items2) { cls:=EK "list",data:=LM items n }).data.pastItsLine=none:=by
   unfold Eu Data.pastItsLine
   simp
   lia
  rw [e9]
  exact wpAny_pure (wpAny_pure ⟨_,rfl,h⟩)
def k8:V->List V->Hp->VK->Prop:=λ x vs H Q=>∃ l b xs zs,x=.ref l/\vs=[.ref b]/\H l=some (.lst xs)/\H b=some (.tup zs)/\xs.length+zs.length<=sizeLine/\Q .non (upd H l (.lst (xs++zs)))
theorem pj:MtM X "list.extend" k8:=by
 intro pins s σ H x vs v us Q I rx rv h
 obtain ⟨l,b,xs,zs,rfl,rfl,hH,hB,hz,q⟩:=h
 cases rx
 obtain ⟨u,rfl,ru⟩:=rv.one
 cases ru
 obtain ⟨z,its,n,r,hl,e⟩:=I.lstM hH
 obtain ⟨its2,r2,⟨⟨c2,d2,t2,l2⟩,o4,o5,n2,o6⟩,hz2⟩:=I.tuple (MR hB)
 have hl2:=r2.length
 have o5':c2=.type "tuple":=o5
 have o6':t2=.seq its2.toArray n2:=o6
 subst o5' o6'
 have hsz:its.toArray.size+its2.toArray.size<=sizeLine:=by rw [Dm,Dm]; lia
 have hlong:¬ (!its.toArray.isEmpty && E1 (its.toArray.size+its2.toArray.size))=true:=by
  rw [gj hsz,Jb]
  exact Dt
 refine call_meets JI ⟨_,e,rfl⟩ Jw (Jo _ _)
  (jr l its.toArray n b its2.toArray n2 d2 l2 hlong (by rw [Dm]; lia) (by lia)) ⟨e,o4,?_⟩
 refine ⟨.non,_,I.lset (its':=its++its2) hH e (by simp) (r.append r2) ?_,rfl,q⟩
 rw [Dg]
 lia
theorem pk {K:C7} (ho:QE X o to) (ha:QA X [e] t) (hbase:attributeBase o ("extend" : Str) X.env (eval o X.env)=eval o X.env:=by rfl) (hline:(apos.endLine == cpos.line)=true:=by rfl) (hn:cI e=true:=by rfl) (hK:X.K=K:=by rfl) :
  QE X (.Call (.Attribute o "extend" apos) [e] [] cpos) (tBM K "list" k8 to t):=by subst hK; exact ⟨qG FZ ID IE pj ho.out ha.out hbase hline hn⟩
end
section
variable {K:C7} {σ:St} {H:Hp} {Q:VK}
theorem nY {x:V} {tp:Addr} (e:H tp=some (.tup [.ty "list",.ty "tuple"])) (hx:Sc x) (h:Q (.bl false) H):xB K [x,.ref tp] H Q:=by
 rcases hx with rfl | ⟨b,rfl⟩ | ⟨i,rfl⟩ | ⟨s,rfl⟩
 ·exact ⟨_,_,tp,_,rfl,e,.non,rfl,h⟩
 ·exact ⟨_,_,tp,_,rfl,e,.bl b,rfl,h⟩
 ·exact ⟨_,_,tp,_,rfl,e,.int i,rfl,h⟩
 ·exact ⟨_,_,tp,_,rfl,e,.str s,rfl,h⟩
theorem uI {p tp:Addr} (s:H p=some (.tup xs)) (e:H tp=some (.tup [.ty "list",.ty "tuple"])) (h:Q (.bl true) H):xB K [.ref p,.ref tp] H Q:=⟨_,_,tp,_,rfl,e,.tup s,rfl,h⟩
theorem nZ {x:V} (hx:Sc x) (h:Q (.bl false) H):yr K [x,.ty "list"] H Q:=by
 rcases hx with rfl | ⟨b,rfl⟩ | ⟨i,rfl⟩ | ⟨s,rfl⟩
 ·exact ⟨_,_,_,_,rfl,.non,rfl,h⟩
 ·exact ⟨_,_,_,_,rfl,.bl b,rfl,h⟩
 ·exact ⟨_,_,_,_,rfl,.int i,rfl,h⟩
 ·exact ⟨_,_,_,_,rfl,.str s,rfl,h⟩
theorem n8 {x:V} (hx:Sc x) (h:Q (.bl false) H):yr K [x,.ty "tuple"] H Q:=by
 rcases hx with rfl | ⟨b,rfl⟩ | ⟨i,rfl⟩ | ⟨s,rfl⟩
 ·exact ⟨_,_,_,_,rfl,.non,rfl,h⟩
 ·exact ⟨_,_,_,_,rfl,.bl b,rfl,h⟩
 ·exact ⟨_,_,_,_,rfl,.int i,rfl,h⟩
 ·exact ⟨_,_,_,_,rfl,.str s,rfl,h⟩
theorem pq {l c:Addr} (h1:H l=some (.lst xs)) (h2:H c=some (.tup ys)) (hz:xs.length+ys.length<=sizeLine) (h:Q .non (upd H l (.lst (xs++ys)))):k8 (.ref l) [.ref c] H Q:=⟨l,c,xs,ys,rfl,rfl,h1,h2,hz,h⟩
end
section
variable {X:Cx} {tg a b c:Expr} {t:TA} {p pos:Pos}
end
section
variable {X:Cx} {e o b:Expr} {to tb te:TE} {pos tpos:Pos}
end
end L2
namespace HT
open PySem PyProof.Rows L2
section
variable {prog:Program} {w:World} {A:Around} {E:Value->Shared->Prop} {s:Shared}
theorem hV {t:Addr} {lo hi:Option Int} (ht:IsTup s.heap t items) (hs:s.heap.IsSliceOf sl vl vu .none) (pl:IsPart vl lo) (pu:IsPart vu hi)
  (hw:sIx items.size 0 lo=0/\sIx items.size items.size hi=items.size) (h:Q (.ref t) s):wpAny (model prog w) A (getItem (.ref t) (.ref sl)) Q E s:=by
 obtain ⟨os,hos,hcs,hds⟩:=id hs
 have hTs:s.TypeIs (.ref sl) "slice":=⟨os,hos,hcs⟩
 unfold getItem
 try with_reducible refine wpAny_holding ?_
 first | refine wpAny_bind (wpAny_pure ?_) | skip
 refine wpAny_bind (wpAny_sequenceKey ht.typeIs (by decide) ?_)
 refine wpAny_bind (wpAny_callSpecial?_slot (name:=EV "__getitem__") ht.typeIs ED
  (wpAny_call_entry ED ht.typeIs entry_tuple_getitem ?_ (args_tuple_getitem _ _)))
 show wpAny _ _ (HR (.ref t) >>= _) _ _ s
 refine wpAny_bind (tupleItemsOf_ ht ?_)
 refine wpAny_bind (wpAny_typeOf hTs ?_)
 rw [if_pos (by decide)]
 refine wpAny_bind (eA hs pl pu ?_)
 have hyes:(((sIx items.size 0 lo:Nat):Int) == 0 && (1:Int) == 1 && (sIx items.size items.size hi - sIx items.size 0 lo) == items.size)=true:=by
  rw [hw.1,hw.2]; simp
 show wpAny _ _ (if (((sIx items.size 0 lo:Nat):Int) == 0 && (1:Int) == 1 && (sIx items.size items.size hi - sIx items.size 0 lo) == items.size)=true then _ else _) _ _ s
 rw [if_pos hyes]
 refine wpAny_bind (wpAny_bind (wpAny_typeOf ht.typeIs (wpAny_pure ?_)))
 rw [if_pos (by decide)]
 refine wpAny_bind (wpAny_rule ?_)
 exact wpAny_pure ⟨_,rfl,wpAny_pure h⟩
end
end HT
namespace L2
open PySem PySem.Spec PyProof.Rows
section
variable {X:Cx} {tg a b:Expr} {t:TA} {p pos:Pos}
def xD:V->Option Int->Option Int->Hp->VK->Prop:=λ x lo hi H Q=>∃ a xs,x=.ref a/\H a=some (.tup xs)/\∀ p H',Same H H'->H' p=some (.tup (kI xs lo hi))->Q (.ref p) H'
theorem xE:SlR X xD:=by
 intro pins s σ H x v vl vu lo hi sl Q I rx hs pl pu h
 obtain ⟨a,xs,rfl,hx,q⟩:=h
 by_cases hw:HT.sIx xs.length 0 lo=0/\HT.sIx xs.length xs.length hi=xs.length
 ·cases rx
  obtain ⟨its,r,ht,hz⟩:=I.tuple (MR hx)
  have hlen:its.toArray.size=xs.length:=by rw [Dm]; exact r.length.symm
  refine ⟨"tuple",_,ED.lookup,ht.typeIs,?_⟩
  refine HT.hV ht hs pl pu (by rw [hlen]; exact hw) ⟨.ref a,H,I,rfl,q a H (MW H) ?_⟩
  rw [hx]
  unfold kI
  rw [hw.1,hw.2,DZ,G6,Da (C8 _)]
 ·exact zi pins s σ H _ v vl vu lo hi sl Q I rx hs pl pu ⟨a,xs,rfl,MR hx,hw,λ p hp=>q p _ ((MW H).new hp) ab⟩
theorem vD:QSl X xD:=⟨xE⟩
end
section
variable {K:C7} {σ:St} {H:Hp} {Q:VK}
end
noncomputable def brk (rss:List (List Nat)) (k:Nat):Bool:=lxt (rss.getD k []) (rss.getD (k - 1) [])
end L2
namespace L2
open PySem PySem.Spec PyProof.Rows PySem.W
noncomputable def Sat (N:Nat) (lt:Nat->Nat->Bool) {α:Type}:KasT α->(α->Prop)->Prop
 | .ret a,R=>R a
 | .ask i j k,R=>i<N/\j<N/\Sat N lt (k (lt i j)) R
theorem Sat.mono {N:Nat} {lt:Nat->Nat->Bool} {α:Type} {R R':α->Prop} (hR:∀ a,R a->R' a):∀ (t:KasT α),Sat N lt t R->Sat N lt t R'
 | .ret _,h=>hR _ h
 | .ask i j k,h=>⟨h.1,h.2.1,Sat.mono hR (k (lt i j)) h.2.2⟩
theorem Sat.bind {N:Nat} {lt:Nat->Nat->Bool} {α β:Type} {R:α->Prop} {R':β->Prop} {f:α->KasT β} (hf:∀ a,R a->Sat N lt (f a) R'):∀ (t:KasT α),Sat N lt t R->Sat N lt (t.bind f) R'
 | .ret a,h=>hf a h
 | .ask i j k,h=>⟨h.1,h.2.1,Sat.bind hf (k (lt i j)) h.2.2⟩
structure Lt (lt:Nat->Nat->Bool):Prop where
 asym:∀ i j,lt i j=true->lt j i=false
 tr:∀ i j k,lt i j=false->lt j k=false->lt i k=false
def Ah (lt:Nat->Nat->Bool) (i j:Nat):Prop:=lt j i=false/\(lt i j=false->i<j)
theorem Ah.of_lt {lt:Nat->Nat->Bool} (H:Lt lt) (h:lt i j=true):Ah lt i j:=⟨H.asym i j h,λ h'=>by rw [h] at h'; cases h'⟩
theorem Ah.trans {lt:Nat->Nat->Bool} (H:Lt lt) (a:Ah lt i j) (b:Ah lt j k):Ah lt i k:=by
 refine ⟨H.tr k j i b.1 a.1,λ h=>?_⟩
 have h1:lt i j=false:=H.tr i k j h b.1
 have h2:lt j k=false:=H.tr j i k a.1 h
 exact IG (a.2 h1) (b.2 h2)
theorem m7 {lt:Nat->Nat->Bool} (H:Lt lt) (h:lt i j=true) (h':lt k j=false):lt i k=true:=by
 cases e:lt i k with
 | true=>rfl
 | false=>rw [H.tr i k j e h'] at h; cases h
theorem lc {lt:Nat->Nat->Bool} (H:Lt lt) (h:lt i j=true) (h':lt i k=false):lt k j=true:=by
 cases e:lt k j with
 | true=>rfl
 | false=>rw [H.tr i k j h' e] at h; cases h
section
variable {N:Nat} {lt:Nat->Nat->Bool}
structure Pm (N:Nat) (p:Array Nat):Prop where
 sz:p.size=N
 bd:∀ i,i<N->p.getD i 0<N
 inj:∀ i j,i<N->j<N->p.getD i 0=p.getD j 0->i=j
theorem gC {p:Array Nat} (h:p.Perm (DA (C9 N))):Pm N p:=by
 have hp:p.toList.Perm (C9 N):=by simpa using H0.mp h
 have hs:p.size=N:=by rw [<-DT,hp.length_eq,DR]
 have hn:p.toList.Nodup:=hp.nodup_iff.mpr GT
 refine ⟨hs,λ i hi=>?_,λ i j hi hj e=>?_⟩
 ·have hi':i<p.size:=by lia
  have:p[i]∈p.toList:=Jm.mpr (Array.getElem_mem hi')
  have h2:=hp.mem_iff.mp this
  rw [show p.getD i 0=p[i] by simp [DI,hi']]
  exact DN.mp h2
 ·have hi':i<p.size:=by lia
  have hj':j<p.size:=by lia
  rw [show p.getD i 0=p[i] by simp [DI,hi'],show p.getD j 0=p[j] by simp [DI,hj']] at e
  have e':p.toList[i]'(by simpa using hi')=p.toList[j]'(by simpa using hj'):=by simpa using e
  have hq:=DK.mp hn
  rcases EL i j with x | x | x
  ·exact absurd e' (hq i j _ _ x)
  ·exact x
  ·exact absurd e'.symm (hq j i _ _ x)
theorem cz {p:Array Nat} (hj:j<=p.size) (k:Nat):(kas_rev p i j).getD k 0=if i<=k/\k<j then p.getD (i+j - 1 - k) 0 else p.getD k 0:=by
 have h:=getElem?_mirror_all (i:=i) hj k
 rw [Fy,Fy,Fy]
 show ((mirror p i j ((j - i) / 2))[k]?).getD 0=_
 rw [h]
 split<;>rfl
theorem iX {p:Array Nat} (hk:k<p.size) (hl:l<=k) (i:Nat):(bubble p k (k - l)).getD i 0=if i=l then p.getD k 0 else if l<i/\i<=k then p.getD (i - 1) 0 else p.getD i 0:=by
 have h:=getElem?_bubble hk (k - l) (by lia) i
 have e:k - (k - l)=l:=by lia
 rw [e] at h
 simp only [Fy]
 rw [h]
 repeat' split
 all_goals rfl
theorem bq {p:Array Nat} (i j:Nat) (h:p.Perm (DA (C9 N))):(kas_rev p i j).Perm (DA (C9 N)):=(mirror_perm _ _ _ _).trans h
theorem lg {p:Array Nat} (i j:Nat) (h:p.Perm (DA (C9 N))):(bubble p i j).Perm (DA (C9 N)):=(bubble_perm _ _ _).trans h
def Tl (N:Nat) (p:Array Nat) (m:Nat):Prop:=∀ i,m<=i->i<N->p.getD i 0=i
theorem Pm.lo {p:Array Nat} (P:Pm N p) (T:Tl N p m) (hi:i<m) (hm:m<=N):p.getD i 0<m:=by
 rcases El (p.getD i 0) m with h | h
 ·exact h
 ·have h2:=T _ h (P.bd i (by lia))
  have:=P.inj _ _ (P.bd i (by lia)) (by lia) h2
  lia
def Up (lt:Nat->Nat->Bool) (p:Array Nat) (m:Nat):Prop:=∀ i,0<i->i<m->Ah lt (p.getD (i - 1) 0) (p.getD i 0)
theorem Up.all (H:Lt lt) {p:Array Nat} {m:Nat} (U:Up lt p m):∀ d i,i+d+1<m->Ah lt (p.getD i 0) (p.getD (i+d+1) 0)
 | 0,i,h=>U (i+1) (by lia) h
 | d+1,i,h=>(Up.all H U d i (by lia)).trans H (U (i+d+1+1) (by lia) h)
theorem Up.at (H:Lt lt) {p:Array Nat} (U:Up lt p m) (h:i<j) (hj:j<m):Ah lt (p.getD i 0) (p.getD j 0):=by
 have:=U.all H (j - i - 1) i (by lia)
 rw [show i+(j - i - 1)+1=j by lia] at this
 exact this
theorem m8 {p:Array Nat} (hb:∀ i,i<N->p.getD i 0<N):∀ (f n:Nat),1<=n->n+f<=N->
  Sat N lt (kas_asc p f n) (λ m=>n<=m/\m<=n+f/\(∀ i,n<=i->i<m->lt (p.getD i 0) (p.getD (i - 1) 0)=false)/\(m<n+f->lt (p.getD m 0) (p.getD (m - 1) 0)=true))
 | 0,n,_,_=>⟨C8 _,C8 _,λ i a b=>by lia,λ h=>by lia⟩
 | f+1,n,h1,hN=>by
  refine ⟨hb _ (by lia),hb _ (by lia),?_⟩
  cases e:lt (p.getD n 0) (p.getD (n - 1) 0) with
  | true=>
   simp only [if_true]
   exact ⟨C8 _,by lia,λ i a b=>by lia,λ _=>e⟩
  | false=>
   simp only [Dh,if_false]
   refine Sat.mono (λ m hm=>?_) _ (m8 hb f (n+1) (by lia) (by lia))
   obtain ⟨a,b,c,d⟩:=hm
   refine ⟨by lia,by lia,λ i hi him=>?_,λ h=>d (by lia)⟩
   rcases Ff hi with rfl | h
   ·exact e
   ·exact c i h him
structure Dn (N:Nat) (lt:Nat->Nat->Bool) (p:Array Nat) (n q:Nat):Prop where
 perm:p.Perm (DA (C9 N))
 tl:Tl N p n
 fall:∀ i,0<i->i+(q+1)<n->Ah lt (p.getD i 0) (p.getD (i - 1) 0)
 like:∀ i,n<=i+q->i<n->Ah lt (p.getD (i - 1) 0) (p.getD i 0)/\lt (p.getD (i - 1) 0) (p.getD i 0)=false
 join:∀ i,0<i->i+(q+1)=n->lt (p.getD i 0) (p.getD (i - 1) 0)=true
 len:q+1<=n
 top:n<=N
theorem Dn.alike (H:Lt lt) {p:Array Nat} {n q:Nat} (D:Dn N lt p n q):∀ d i j,i+d=j->n<=i+q+1->j<n->lt (p.getD i 0) (p.getD j 0)=false/\lt (p.getD j 0) (p.getD i 0)=false
 | 0,i,j,e,h1,h2=>by
  have:i=j:=by lia
  subst this
  cases e:lt (p.getD i 0) (p.getD i 0) with
  | false=>exact ⟨rfl,rfl⟩
  | true=>have:=H.asym _ _ e; rw [e] at this; cases this
 | d+1,i,j,e,h1,h2=>by
  obtain ⟨a,b⟩:=Dn.alike H D d i (j - 1) (by lia) h1 (by lia)
  obtain ⟨⟨c,_⟩,c'⟩:=D.like j (by lia) h2
  exact ⟨H.tr _ _ _ a c',H.tr _ _ _ c b⟩
theorem Dn.turn (H:Lt lt) {p:Array Nat} {q:Nat} (D:Dn N lt p n q):Tl N (kas_rev p (n - (q+1)) n) n/\(∀ i,0<i->i<n->Ah lt ((kas_rev p (n - (q+1)) n).getD i 0) ((kas_rev p (n - (q+1)) n).getD (i - 1) 0))/\
  (∀ x,lt x (p.getD (n - 1) 0)=true->lt x ((kas_rev p (n - (q+1)) n).getD (n - 1) 0)=true):=by
 have P:=gC D.perm
 have hn:n<=p.size:=by rw [P.sz]; exact D.top
 have hl:=D.len
 refine ⟨λ i h1 h2=>?_,λ i h1 h2=>?_,λ x hx=>?_⟩
 ·rw [cz hn,if_neg (by lia)]; exact D.tl i h1 h2
 ·rw [cz hn,cz hn]
  by_cases c1:n - (q+1)<=i
  ·rw [if_pos ⟨c1,h2⟩]
   by_cases c2:n - (q+1)<=i - 1
   ·rw [if_pos ⟨c2,by lia⟩]
    have:=(D.like (n - (q+1)+n - 1 - (i - 1)) (by lia) (by lia)).1
    rw [show n - (q+1)+n - 1 - (i - 1) - 1=n - (q+1)+n - 1 - i by lia] at this
    exact this
   ·rw [if_neg (by lia)]
    have ei:i=n - (q+1):=by lia
    rw [show n - (q+1)+n - 1 - i=n - 1 by lia]
    have j:=D.join i h1 (by lia)
    have k:=(D.alike H (n - 1 - i) i (n - 1) (by lia) (by lia) (by lia)).1
    exact Ah.of_lt H (lc H j k)
  ·rw [if_neg (by lia),if_neg (by lia)]
   exact D.fall i h1 (by lia)
 ·rw [cz hn,if_pos (by lia),show n - (q+1)+n - 1 - (n - 1)=n - (q+1) by lia]
  have k:=(D.alike H (n - 1 - (n - (q+1))) (n - (q+1)) (n - 1) (by lia) (by lia) (by lia)).1
  exact m7 H hx k
theorem iY (H:Lt lt):∀ (f:Nat) (p:Array Nat) (n q:Nat),Dn N lt p n q->n+f<=N->
  Sat N lt (kas_desc f p n q) (λ r=>Dn N lt r.1 r.2.1 r.2.2)
 | 0,p,n,q,D,_=>D
 | f+1,p,n,q,D,hN=>by
  have P:=gC D.perm
  have hl:=D.len
  have hn:n<=p.size:=by rw [P.sz]; exact D.top
  refine ⟨P.bd _ (by lia),P.bd _ (by lia),?_⟩
  cases e:lt (p.getD n 0) (p.getD (n - 1) 0) with
  | true=>
   simp only [if_true]
   have step:∀ p':Array Nat,p'.Perm (DA (C9 N))->Tl N p' n->(∀ i,0<i->i<n->Ah lt (p'.getD i 0) (p'.getD (i - 1) 0))->lt (p'.getD n 0) (p'.getD (n - 1) 0)=true->Dn N lt p' (n+1) 0:=
    λ p' a b c d=>⟨a,λ i h1 h2=>b i (by lia) h2,λ i h1 h2=>c i h1 (by lia),λ i h1 h2=>by lia,
     λ i h1 h2=>by (have:i=n:=(by lia)); subst this; exact d,by lia,by lia⟩
   by_cases hq:q > 0
   ·rw [if_pos hq]
    obtain ⟨t1,t2,t3⟩:=D.turn H
    refine iY H f _ (n+1) 0 (step _ (bq _ _ D.perm) t1 t2 ?_) (by lia)
    refine t3 _ ?_
    rw [cz hn,if_neg (by lia)]
    exact e
   ·rw [if_neg hq]
    have hq0:q=0:=by lia
    subst hq0
    refine iY H f _ (n+1) 0 (step _ D.perm D.tl (λ i h1 h2=>?_) e) (by lia)
    rcases El (i+1) n with h | h
    ·exact D.fall i h1 h
    ·exact Ah.of_lt H (D.join i h1 (by lia))
  | false=>
   simp only [Dh,if_false]
   refine ⟨P.bd _ (by lia),P.bd _ (by lia),?_⟩
   cases e2:lt (p.getD (n - 1) 0) (p.getD n 0) with
   | true=>
    simp only [if_true]
    exact D
   | false=>
    simp only [Dh,if_false]
    refine iY H f p (n+1) (q+1) ⟨D.perm,λ i h1 h2=>D.tl i (by lia) h2,λ i h1 h2=>D.fall i h1 (by lia),λ i h1 h2=>?_,λ i h1 h2=>D.join i h1 (by lia),by lia,by lia⟩ (by lia)
    rcases El i n with h | h
    ·exact D.like i (by lia) h
    ·have:i=n:=by lia
     subst this
     refine ⟨⟨e,λ _=>?_⟩,e2⟩
     rw [D.tl i (C8 _) (by lia)]
     exact P.lo D.tl (by lia) D.top
structure Rn (N:Nat) (lt:Nat->Nat->Bool) (p:Array Nat) (m:Nat):Prop where
 perm:p.Perm (DA (C9 N))
 tl:Tl N p m
 up:Up lt p m
 top:m<=N
theorem Rn.longer (H:Lt lt) {p:Array Nat} (R:Rn N lt p n) (h1:1<=n) (h:n<=m) (hm:m<=N) (ha:∀ i,n<=i->i<m->lt (p.getD i 0) (p.getD (i - 1) 0)=false):Rn N lt p m:=by
 have P:=gC R.perm
 refine ⟨R.perm,λ i a b=>R.tl i (by lia) b,λ i a b=>?_,hm⟩
 rcases El i n with c | c
 ·exact R.up i a c
 ·refine ⟨ha i c b,λ _=>?_⟩
  rw [R.tl i c (by lia)]
  exact P.lo (λ j x y=>R.tl j (by lia) y) (by lia) (by lia)
theorem px (H:Lt lt) {p:Array Nat} (hp:p.Perm (DA (C9 N))) (T:Tl N p n) (hn:n<=N) (F:∀ i,0<i->i<n->Ah lt (p.getD i 0) (p.getD (i - 1) 0)):Rn N lt (kas_rev p 0 n) n:=by
 have P:=gC hp
 have hs:n<=p.size:=by rw [P.sz]; exact hn
 refine ⟨bq _ _ hp,λ i a b=>?_,λ i a b=>?_,hn⟩
 ·rw [cz hs,if_neg (by lia)]; exact T i a b
 ·rw [cz hs,cz hs,if_pos (by lia),if_pos (by lia)]
  have:=F (0+n - 1 - (i - 1)) (by lia) (by lia)
  rw [show 0+n - 1 - (i - 1) - 1=0+n - 1 - i by lia] at this
  exact this
theorem mi (H:Lt lt) {p:Array Nat} (h1:1<=n) (hp:p.Perm (DA (C9 N))) (T:Tl N p n) (hn:n<=N) (F:∀ i,0<i->i<n->Ah lt (p.getD i 0) (p.getD (i - 1) 0)) :
  Sat N lt (kas_tail3 n N p) (λ r=>1<=r.1/\Rn N lt r.2 r.1):=by
 have R:=px H hp T hn F
 refine Sat.bind (λ m hm=>?_) _ (m8 (gC R.perm).bd (N - n) n h1 (by lia))
 exact ⟨by show 1<=m; lia,R.longer H h1 hm.1 (by lia) hm.2.2.1⟩
theorem iD (H:Lt lt) {p:Array Nat} (D:Dn N lt p (n+1) 0):Sat N lt (kas_descPart n N p) (λ r=>1<=r.1/\Rn N lt r.2 r.1):=by
 have:=D.top
 refine Sat.bind (λ r D'=>?_) _ (iY H (N - (n+1)) p (n+1) 0 D (by lia))
 have hl:=D'.len
 by_cases hq:r.2.2 > 0
 ·rw [if_pos hq]
  obtain ⟨t1,t2,_⟩:=D'.turn H
  exact mi H (by lia) (bq _ _ D'.perm) t1 D'.top t2
 ·rw [if_neg hq]
  refine mi H (by lia) D'.perm D'.tl D'.top λ i h1 h2=>?_
  rcases El (i+(r.2.2+1)) r.2.1 with h | h
  ·exact D'.fall i h1 h
  ·exact Ah.of_lt H (D'.join i h1 (by lia))
theorem bf (i:Nat) (h:i<N):(DA (C9 N)).getD i 0=i:=by
 simp [DI,h]
theorem rl (H:Lt lt) (h1:1<=N):Sat N lt (kas_count N (DA (C9 N))) (λ r=>1<=r.1/\Rn N lt r.2 r.1):=by
 have hp:(DA (C9 N)).Perm (DA (C9 N)):=KF _
 have P:=gC hp
 have R1:Rn N lt (DA (C9 N)) 1:=⟨hp,λ i a b=>bf i b,λ i a b=>by lia,h1⟩
 refine Sat.bind (λ n hn=>?_) _ (m8 P.bd (N - 1) 1 (C8 _) (by lia))
 obtain ⟨a,b,c,d⟩:=hn
 have R:=R1.longer H (C8 _) a (by lia) c
 by_cases e:n=N
 ·rw [if_pos (by simp [e])]; exact ⟨a,R⟩
 ·rw [if_neg (by simp [e])]
  have dd:=d (by lia)
  rw [bf _ (by lia),bf _ (by lia)] at dd
  by_cases h:n > 1
  ·rw [if_pos h]
   refine ⟨P.bd _ (by lia),P.bd _ (by lia),?_⟩
   rw [bf _ (by lia),bf _ (by lia)]
   cases e2:lt 0 (n - 1) with
   | true=>
    simp only [if_true]
    exact ⟨a,R⟩
   | false=>
    simp only [Dh,if_false]
    have hs:n<=(DA (C9 N)).size:=by simp; lia
    have le:∀ i j,i<j->j<n->lt j i=false:=λ i j x y=>by
     have:=(R.up.at H x y).1
     rwa [bf _ (by lia),bf _ (by lia)] at this
    have ge:∀ i j,i<j->j<n->lt i j=false:=λ i j x y=>by
     have p1:lt i 0=false:=by
      rcases Fg i with rfl | q
      ·cases e5:lt 0 0 with
       | false=>rfl
       | true=>have:=H.asym _ _ e5; rw [e5] at this; cases this
      ·exact le 0 i q (by lia)
     have p2:lt (n - 1) j=false:=by
      rcases El j (n - 1) with q | q
      ·exact le j (n - 1) q (by lia)
      ·have:j=n - 1:=by lia
       subst this
       cases e5:lt (n - 1) (n - 1) with
       | false=>rfl
       | true=>have:=H.asym _ _ e5; rw [e5] at this; cases this
     exact H.tr _ _ _ p1 (H.tr _ _ _ e2 p2)
    have g:∀ i,i<N->(kas_rev (DA (C9 N)) 0 n).getD i 0=if i<n then n - 1 - i else i:=λ i hi=>by
     rw [cz hs]
     by_cases q:i<n
     ·rw [if_pos (by lia),if_pos q,bf _ (by lia)]; lia
     ·rw [if_neg (by lia),if_neg q,bf _ hi]
    refine iD H ⟨bq _ _ hp,λ i x y=>?_,λ i x y=>?_,λ i x y=>by lia,λ i x y=>?_,by lia,by lia⟩
    ·rw [g i y,if_neg (by lia)]
    ·rw [g i (by lia),g (i - 1) (by lia),if_pos (by lia),if_pos (by lia)]
     exact ⟨le _ _ (by lia) (by lia),λ _=>by lia⟩
    ·have ei:i=n:=by lia
     subst ei
     rw [g i (by lia),g (i - 1) (by lia),if_neg (by lia),if_pos (by lia),show i - 1 - (i - 1)=0 by lia]
     exact m7 H dd e2
  ·rw [if_neg h]
   have:n=1:=by lia
   subst this
   refine iD H ⟨hp,λ i x y=>bf i y,λ i x y=>by lia,λ i x y=>by lia,λ i x y=>?_,by lia,by lia⟩
   have:i=1:=by lia
   subst this
   rw [bf _ (by lia),bf _ (by lia)]
   exact dd
theorem Rn.put (H:Lt lt) {p:Array Nat} (R:Rn N lt p k) (hk:k<N) (hm:m<=k) (a:∀ i,i<m->lt k (p.getD i 0)=false) (b:∀ i,m<=i->i<k->lt k (p.getD i 0)=true):Rn N lt (bubble p k (k - m)) (k+1):=by
 have P:=gC R.perm
 have hs:k<p.size:=by rw [P.sz]; exact hk
 have ek:p.getD k 0=k:=R.tl k (C8 _) hk
 refine ⟨lg _ _ R.perm,λ i x y=>?_,λ i x y=>?_,hk⟩
 ·rw [iX hs hm,if_neg (by lia),if_neg (by lia)]; exact R.tl i (by lia) y
 ·rw [iX hs hm,iX hs hm,ek]
  rcases El i m with c | c
  ·rw [if_neg (by lia),if_neg (by lia),if_neg (by lia),if_neg (by lia)]
   exact R.up i x (by lia)
  ·by_cases c1:i=m
   ·rw [if_neg (by lia),if_neg (by lia),if_pos c1]
    exact ⟨a _ (by lia),λ _=>P.lo R.tl (by lia) (by lia)⟩
   ·by_cases c2:i=m+1
    ·rw [if_pos (by lia),if_neg (by lia),if_pos (by lia)]
     exact Ah.of_lt H (b _ (by lia) (by lia))
    ·rw [if_neg (by lia),if_pos (by lia),if_neg (by lia),if_pos (by lia)]
     exact R.up (i - 1) (by lia) (by lia)
end
noncomputable abbrev SM:=StateT SortSt Sem
structure Orc where
 prog:Program
 w:World
 A:Around
 E:Value->Shared->Prop
 κ:SortKind
 it:Array Keyed
 N:Nat
 lt:Nat->Nat->Bool
 I:Shared->Prop
 hc:∀ i j s,i<N->j<N->I s->kas_cmp prog w A κ it i j (λ b s'=>b=lt i j/\I s') s
structure Ab where
 p:Array Nat
 pd:Array (Nat×Nat×Nat)
 mg:Nat
noncomputable def Ab.st (O:Orc) (b:Ab):SortSt:=E4 O.κ (b.p.map (kas_item O.it)) b.pd b.mg none
def W (O:Orc) {α:Type} (m:SM α) (Q:α->Ab->Prop) (b:Ab):Prop:=
 ∀ s,O.I s->kasC (model O.prog O.w) O.A O.E m (λ a st s'=>O.I s'/\∃ b':Ab,st=b'.st O/\Q a b') (b.st O) s
section
variable {O:Orc} {α β:Type} {b:Ab}
theorem W.pure {a:α} {Q:α->Ab->Prop} (h:Q a b):W O (Ms a) Q b:=λ s hs=>kasC_pure ⟨hs,b,rfl,h⟩
theorem W.bind {m:SM α} {f:α->SM β} {Q:β->Ab->Prop} (h:W O m (λ a b'=>W O (f a) Q b') b):W O (m >>= f) Q b:=λ s hs=>
 kasC_bind (wpAny_mono (h s hs) (λ r s' ⟨i,b',e,q⟩=>by rw [e]; exact q s' i) λ _ _ z=>z)
theorem W.mono {m:SM α} {Q Q':α->Ab->Prop} (h:W O m Q b) (k:∀ a b',Q a b'->Q' a b'):W O m Q' b:=λ s hs=>
 wpAny_mono (h s hs) (λ r s' ⟨i,b',e,q⟩=>⟨i,b',e,k _ _ q⟩) λ _ _ z=>z
theorem W.ite {c:Prop} [Decidable c] {m m':SM α} {Q:α->Ab->Prop} (h:c->W O m Q b) (h':¬ c->W O m' Q b):W O (if c then m else m') Q b:=by
 by_cases q:c
 ·rw [if_pos q]; exact h q
 ·rw [if_neg q]; exact h' q
theorem W.get {Q:SortSt->Ab->Prop} (h:Q (b.st O) b):W O (KL:SM SortSt) Q b:=λ s hs=>kasC_get ⟨hs,b,rfl,h⟩
theorem W.modify {f:SortSt->SortSt} {Q:PUnit->Ab->Prop} (b':Ab) (e:f (b.st O)=b'.st O) (h:Q ⟨⟩ b'):W O (_root_.modify f:SM PUnit) Q b:=λ s hs=>kasC_modify ⟨hs,b',e,h⟩
theorem W.rule {r:String} {Q:Unit->Ab->Prop} (h:Q () b):W O (liftM (PySem.rule r):SM Unit) Q b:=λ s hs=>kasC_lift (wpAny_rule ⟨hs,b,rfl,h⟩)
theorem W.lt {Q:Option Bool->Ab->Prop} (hi:i<O.N) (hj:j<O.N) (h:Q (some (O.lt i j)) b):W O (lt' (kas_item O.it i) (kas_item O.it j)) Q b:=λ s hs=>by
 rw [lt'_eq]
 refine kasC_bind (kasC_get ?_)
 refine kasC_bind (kasC_lift (wpAny_attempt (wpAny_mono (O.hc i j s hi hj hs) (λ c s' hc=>?_) λ _ _ hF=>hF.elim)))
 obtain ⟨rfl,hs'⟩:=hc
 exact kasC_pure ⟨hs',b,rfl,h⟩
theorem zS {xs:Array Nat} (h:k<xs.size) (f:Nat->Keyed):(xs.map f)[k]? = some (f (xs.getD k 0)):=by
 have e:xs.getD k 0=xs[k]:=by simp [DI,h]
 rw [e]; simp [h]
theorem W.elem {xs:Array Nat} {Q:Keyed->Ab->Prop} (hk:k<xs.size) (h:Q (kas_item O.it (xs.getD k 0)) b):W O (elem' (xs.map (kas_item O.it)) k) Q b:=by
 rw [elem'_eq,zS hk]; exact W.pure h
theorem W.ltAt {Q:Option Bool->Ab->Prop} (hi:i<b.p.size) (hj:j<b.p.size) (hN:∀ k,k<b.p.size->b.p.getD k 0<O.N) (h:Q (some (O.lt (b.p.getD i 0) (b.p.getD j 0))) b):W O (ltAt' i j) Q b:=by
 rw [ltAt'_eq]
 refine W.bind (W.get ?_)
 exact W.bind (W.elem hi (W.bind (W.elem hj (W.lt (hN i hi) (hN j hj) h))))
theorem W.forIn {γ:Type} {l:List Nat} {c:γ} {f:Nat->γ->SM (ForInStep γ)} {D:γ->Ab->Prop} (J:Nat->γ->Ab->Prop) (h0:J l.length c b)
  (hs:∀ x k c b,J (k+1) c b->W O (f x c) (λ r b'=>match r with | .done c'=>D c' b' | .yield c'=>J k c' b') b) (hd:∀ c b,J 0 c b->D c b):W O (IY l c f) D b:=by
 induction l generalizing c b with
 | nil=>exact λ s hi=>kasC_nil ⟨hi,b,rfl,hd c b h0⟩
 | cons x l ih=>
  intro s hi
  refine kasC_cons (wpAny_mono (hs x l.length c b h0 s hi) (λ r s' ⟨i,b',e,q⟩=>?_) λ _ _ z=>z)
  obtain ⟨r,st⟩:=r
  have e:st=b'.st O:=e
  subst e
  cases r with
  | done c'=>exact ⟨i,b',rfl,q⟩
  | yield c'=>exact ih q s' i
theorem W.range {γ:Type} {x y:Nat} {c:γ} {f:Nat->γ->SM (ForInStep γ)} {D:γ->Ab->Prop} (J:Nat->γ->Ab->Prop) (h0:J (y - x) c b)
  (hs:∀ x k c b,J (k+1) c b->W O (f x c) (λ r b'=>match r with | .done c'=>D c' b' | .yield c'=>J k c' b') b) (hd:∀ c b,J 0 c b->D c b):W O (IY [x:y] c f) D b:=λ s hi=>
 kasC_range (W.forIn (l:=DS x (y - x)) J (by rw [List.length_range']; exact h0) hs hd s hi)
end
noncomputable def gal:Bool->Keyed->Array Keyed->Nat->Nat->Nat->SM (Option Nat):=sortPriv% PySem.Builtin.gallop
noncomputable def byd (lf:Bool) (ky:Keyed) (ar:Array Keyed) (bs i:Nat):SM (Option Bool):=do
 let z <-elem' ar (bs+i)
 if lf then lt' z ky else return (<-lt' ky z).map (!·)
theorem zT (lf:Bool) (ky:Keyed) (ar:Array Keyed) (bs m hn:Nat):gal lf ky ar bs m hn=(do
 let mut lo1:=0
 let mut of1:=1
 let mut a1:=0
 let mut b1:=0
 let some rt <-byd lf ky ar bs hn | return none
 if rt then
  let mx:=m - hn
  for _ in [0:m] do
   if of1>=mx then break
   let some mo <-byd lf ky ar bs (hn+of1) | return none
   if !mo then break
   lo1:=of1
   of1:=2*of1+1
  a1:=hn+lo1+1
  b1:=hn+min of1 mx
 else
  let mx:=hn+1
  for _ in [0:m] do
   if of1>=mx then break
   let some fd <-byd lf ky ar bs (hn - of1) | return none
   if fd then break
   lo1:=of1
   of1:=2*of1+1
  a1:=hn+1 - min of1 mx
  b1:=hn - lo1
 for _ in [0:m] do
  if a1>=b1 then break
  let md:=a1+(b1 - a1) / 2
  let some mo <-byd lf ky ar bs md | return none
  if mo then a1:=md+1 else b1:=md
 return some b1):=rfl
section
variable {O:Orc} {b:Ab}
noncomputable def bey (O:Orc) (lf:Bool) (k:Nat) (xs:Array Nat) (bs i:Nat):Bool:=if lf then O.lt (xs.getD (bs+i) 0) k else !(O.lt k (xs.getD (bs+i) 0))
theorem W.byd {lf:Bool} {k:Nat} {xs:Array Nat} {bs i:Nat} {Q:Option Bool->Ab->Prop} (hk:k<O.N) (hx:∀ j,j<xs.size->xs.getD j 0<O.N) (hi:bs+i<xs.size) (h:Q (some (bey O lf k xs bs i)) b) :
  W O (byd lf (kas_item O.it k) (xs.map (kas_item O.it)) bs i) Q b:=by
 unfold L2.byd
 refine W.bind (W.elem hi ?_)
 unfold bey at h
 cases lf with
 | true=>
  rw [if_pos rfl] at h ⊢
  exact W.lt (hx _ hi) hk h
 | false=>
  rw [if_neg Dt] at h ⊢
  exact W.bind (W.lt hk (hx _ hi) (W.pure h))
theorem W.gal {lf:Bool} {xs:Array Nat} {bs hn K:Nat} {Q:Option Nat->Ab->Prop} (hk:k<O.N) (hx:∀ j,j<xs.size->xs.getD j 0<O.N) (hm:bs+m<=xs.size) (hh:hn<m) (hK:K<=m)
  (h1:∀ i,i<K->bey O lf k xs bs i=true) (h2:∀ i,K<=i->i<m->bey O lf k xs bs i=false) (h:Q (some K) b):W O (gal lf (kas_item O.it k) (xs.map (kas_item O.it)) bs m hn) Q b:=by
 have yes:∀ {i},bey O lf k xs bs i=true->i<m->i<K:=λ {i} e hi=>by
  rcases El i K with z | z
  ·exact z
  ·rw [h2 i z hi] at e; cases e
 have no:∀ {i},bey O lf k xs bs i=false->K<=i:=λ {i} e=>by
  rcases El i K with z | z
  ·rw [h1 i z] at e; cases e
  ·exact z
 rw [zT]
 refine W.bind (W.byd hk hx (by lia) ?_)
 dsimp only
 cases e0:bey O lf k xs bs hn with
 | true=>
  simp only [if_true]
  have h0:=yes e0 hh
  refine W.bind (W.range (D:=λ c b'=>b'=b/\c.1=none/\hn+c.2.1<K/\K<=hn+min c.2.2 (m - hn)) (λ j c b'=>b'=b/\c.1=none/\hn+c.2.1<K/\m+1<=c.2.2+j) ⟨rfl,rfl,h0,by simp; lia⟩ ?_ ?_ |>.mono λ c b' hc=>?_)
  ·rintro x j ⟨c1,c2,c3⟩ b' ⟨eb,e1,e2,e3⟩
   subst b'
   dsimp only at e1 e2 e3 ⊢
   subst e1
   by_cases hge:c3>=m - hn
   ·rw [if_pos hge]
    exact W.pure ⟨rfl,rfl,e2,by show K<=hn+min c3 (m - hn); lia⟩
   ·rw [if_neg hge]
    refine W.bind (W.byd hk hx (by lia) ?_)
    cases e:bey O lf k xs bs (hn+c3) with
    | true=>
     simp only [Gb,Dh,if_false]
     have:=yes e (by lia)
     exact W.pure ⟨rfl,rfl,this,by show m+1<=2*c3+1+j; lia⟩
    | false=>
     simp only [Bool.not_false,if_true]
     have:=no e
     exact W.pure ⟨rfl,rfl,e2,by show K<=hn+min c3 (m - hn); lia⟩
  ·rintro ⟨c1,c2,c3⟩ b' ⟨eb,e1,e2,e3⟩
   subst b'
   exact ⟨rfl,e1,e2,by show K<=hn+min c3 (m - hn); dsimp only at e3; lia⟩
  ·obtain ⟨c1,c2,c3⟩:=c
   obtain ⟨eb,e1,e2,e3⟩:=hc
   subst b'
   dsimp only at e1 e2 e3 ⊢
   subst e1
   dsimp only
   refine W.bind (W.range (D:=λ c b'=>b'=b/\c.1=none/\c.2.2=K) (λ j c b'=>b'=b/\c.1=none/\c.2.1<=K/\K<=c.2.2/\c.2.2<=m/\c.2.2 - c.2.1<=j) ⟨rfl,rfl,by show hn+c2+1<=K; lia,by show K<=hn+min c3 (m - hn); exact e3,by show hn+min c3 (m - hn)<=m; lia,by show hn+min c3 (m - hn) - (hn+c2+1)<=m - 0; lia⟩ ?_ ?_ |>.mono λ c b' hc=>?_)
   ·rintro x j ⟨c1,c2,c3⟩ b' ⟨eb,e1,e2,e3,e4,e5⟩
    subst b'
    dsimp only at e1 e2 e3 e4 e5 ⊢
    subst e1
    by_cases hge:c2>=c3
    ·rw [if_pos hge]
     exact W.pure ⟨rfl,rfl,by show c3=K; lia⟩
    ·rw [if_neg hge]
     refine W.bind (W.byd hk hx (by lia) ?_)
     cases e:bey O lf k xs bs (c2+(c3 - c2) / 2) with
     | true=>
      simp only [if_true]
      have:=yes e (by lia)
      exact W.pure ⟨rfl,rfl,by show c2+(c3 - c2) / 2+1<=K; lia,e3,e4,by show c3 - (c2+(c3 - c2) / 2+1)<=j; lia⟩
     | false=>
      simp only [Dh,if_false]
      have:=no e
      exact W.pure ⟨rfl,rfl,e2,this,by show c2+(c3 - c2) / 2<=m; lia,by show c2+(c3 - c2) / 2 - c2<=j; lia⟩
   ·rintro ⟨c1,c2,c3⟩ b' ⟨eb,e1,e2,e3,e4,e5⟩
    subst b'
    exact ⟨rfl,e1,by show c3=K; dsimp only at e2 e3 e5; lia⟩
   ·obtain ⟨c1,c2,c3⟩:=c
    obtain ⟨eb,e1,e2⟩:=hc
    subst b'
    dsimp only at e1 e2 ⊢
    subst e1 e2
    exact W.pure h
 | false=>
  simp only [Dh,if_false]
  have h0:=no e0
  refine W.bind (W.range (D:=λ c b'=>b'=b/\c.1=none/\K+c.2.1<=hn/\hn+1 - min c.2.2 (hn+1)<=K) (λ j c b'=>b'=b/\c.1=none/\K+c.2.1<=hn/\m+1<=c.2.2+j) ⟨rfl,rfl,h0,by simp; lia⟩ ?_ ?_ |>.mono λ c b' hc=>?_)
  ·rintro x j ⟨c1,c2,c3⟩ b' ⟨eb,e1,e2,e3⟩
   subst b'
   dsimp only at e1 e2 e3 ⊢
   subst e1
   by_cases hge:c3>=hn+1
   ·rw [if_pos hge]
    exact W.pure ⟨rfl,rfl,e2,by show hn+1 - min c3 (hn+1)<=K; lia⟩
   ·rw [if_neg hge]
    refine W.bind (W.byd hk hx (by lia) ?_)
    cases e:bey O lf k xs bs (hn - c3) with
    | true=>
     simp only [if_true]
     have:=yes e (by lia)
     exact W.pure ⟨rfl,rfl,e2,by show hn+1 - min c3 (hn+1)<=K; lia⟩
    | false=>
     simp only [Dh,if_false]
     have:=no e
     exact W.pure ⟨rfl,rfl,by show K+c3<=hn; lia,by show m+1<=2*c3+1+j; lia⟩
  ·rintro ⟨c1,c2,c3⟩ b' ⟨eb,e1,e2,e3⟩
   subst b'
   exact ⟨rfl,e1,e2,by show hn+1 - min c3 (hn+1)<=K; dsimp only at e3; lia⟩
  ·obtain ⟨c1,c2,c3⟩:=c
   obtain ⟨eb,e1,e2,e3⟩:=hc
   subst b'
   dsimp only at e1 e2 e3 ⊢
   subst e1
   dsimp only
   refine W.bind (W.range (D:=λ c b'=>b'=b/\c.1=none/\c.2.2=K) (λ j c b'=>b'=b/\c.1=none/\c.2.1<=K/\K<=c.2.2/\c.2.2<=m/\c.2.2 - c.2.1<=j) ⟨rfl,rfl,by show hn+1 - min c3 (hn+1)<=K; exact e3,by show K<=hn - c2; lia,by show hn - c2<=m; lia,by show hn - c2 - (hn+1 - min c3 (hn+1))<=m - 0; lia⟩ ?_ ?_ |>.mono λ c b' hc=>?_)
   ·rintro x j ⟨c1,c2,c3⟩ b' ⟨eb,e1,e2,e3,e4,e5⟩
    subst b'
    dsimp only at e1 e2 e3 e4 e5 ⊢
    subst e1
    by_cases hge:c2>=c3
    ·rw [if_pos hge]
     exact W.pure ⟨rfl,rfl,by show c3=K; lia⟩
    ·rw [if_neg hge]
     refine W.bind (W.byd hk hx (by lia) ?_)
     cases e:bey O lf k xs bs (c2+(c3 - c2) / 2) with
     | true=>
      simp only [if_true]
      have:=yes e (by lia)
      exact W.pure ⟨rfl,rfl,by show c2+(c3 - c2) / 2+1<=K; lia,e3,e4,by show c3 - (c2+(c3 - c2) / 2+1)<=j; lia⟩
     | false=>
      simp only [Dh,if_false]
      have:=no e
      exact W.pure ⟨rfl,rfl,e2,this,by show c2+(c3 - c2) / 2<=m; lia,by show c2+(c3 - c2) / 2 - c2<=j; lia⟩
   ·rintro ⟨c1,c2,c3⟩ b' ⟨eb,e1,e2,e3,e4,e5⟩
    subst b'
    exact ⟨rfl,e1,by show c3=K; dsimp only at e2 e3 e5; lia⟩
   ·obtain ⟨c1,c2,c3⟩:=c
    obtain ⟨eb,e1,e2⟩:=hc
    subst b'
    dsimp only at e1 e2 ⊢
    subst e1 e2
    exact W.pure h
end
noncomputable def setMG:Nat->SM Unit:=sortPriv% PySem.Builtin.setMinGallop
noncomputable def mLo:Array Keyed->Array Keyed->SM (Array Keyed):=sortPriv% PySem.Builtin.mergeLo
theorem uJ (g:Nat):setMG g=_root_.modify λ st=>E4 (kindOf st) (arrOf st) (pendingOf st) g (failedOf st):=rfl
theorem zU (a b:Array Keyed):mLo a b=(do
 rule "list.sort.merge-lo"
 let tt:=a.size+b.size
 let dn (o:Array Keyed) (i j:Nat):=o++a.extract i a.size++b.extract j b.size
 let la (o:Array Keyed) (i j:Nat):=o++b.extract j b.size++a.extract i a.size
 let mut o:Array Keyed:=#[<-elem' b 0]
 let mut i:=0
 let mut j:=1
 if j == b.size then return dn o i j
 if i+1 == a.size then return la o i j
 let mut mg:=gallopOf (<-get)
 for _ in [0:tt] do
  let mut ca:=0
  let mut cb:=0
  for _ in [0:tt] do
   let some bw <-lt' (<-elem' b j) (<-elem' a i) | return dn o i j
   if bw then
    o:=o.push (<-elem' b j); j:=j+1; cb:=cb+1; ca:=0
    if j == b.size then return dn o i j
    if cb>=mg then break
   else
    o:=o.push (<-elem' a i); i:=i+1; ca:=ca+1; cb:=0
    if i+1 == a.size then return la o i j
    if ca>=mg then break
  rule "list.sort.gallop"
  mg:=mg+1
  for _ in [0:tt] do
   if mg > 1 then mg:=mg - 1
   setMG mg
   let some k <-gal false (<-elem' b j) a i (a.size - i) 0 | return dn o i j
   ca:=k
   if k > 0 then
    o:=o++a.extract i (i+k); i:=i+k
    if i+1 == a.size then return la o i j
    if i == a.size then return dn o i j
   o:=o.push (<-elem' b j); j:=j+1
   if j == b.size then return dn o i j
   let some k <-gal true (<-elem' a i) b j (b.size - j) 0 | return dn o i j
   cb:=k
   if k > 0 then
    o:=o++b.extract j (j+k); j:=j+k
    if j == b.size then return dn o i j
   o:=o.push (<-elem' a i); i:=i+1
   if i+1 == a.size then return la o i j
   if ca<7 && cb<7 then break
  mg:=mg+1
  setMG mg
 unsupported "internal:list.sort.merge-bound"):=rfl
section
variable {O:Orc} {b:Ab}
theorem W.setMG {g:Nat} {Q:Unit->Ab->Prop} (h:Q () { b with mg:=g }):W O (setMG g) Q b:=by
 rw [uJ]; exact W.modify { b with mg:=g } rfl h
structure Two (O:Orc) (xs ys:Array Nat):Prop where
 H:Lt O.lt
 nx:∀ i,i<xs.size->xs.getD i 0<O.N
 ny:∀ i,i<ys.size->ys.getD i 0<O.N
 sx:xs.toList.Pairwise (Ah O.lt)
 sy:ys.toList.Pairwise (Ah O.lt)
 xy:∀ x∈xs.toList,∀ y∈ys.toList,x<y
 x1:0<xs.size
 y1:0<ys.size
def m9 (O:Orc) (xs ys:Array Nat) (rs:Array Nat):Prop:=rs.toList.Perm (xs.toList++ys.toList)/\rs.toList.Pairwise (Ah O.lt)
structure Lw (O:Orc) (xs ys os:Array Nat) (i j:Nat):Prop where
 pm:(os.toList++(xs.toList.drop i++ys.toList.drop j)).Perm (xs.toList++ys.toList)
 sa:(os.toList++xs.toList.drop i).Pairwise (Ah O.lt)
 sb:(os.toList++ys.toList.drop j).Pairwise (Ah O.lt)
 ti:i<=xs.size
 tj:j<=ys.size
theorem hW {xs:Array Nat} (h:i<xs.size):xs.toList.drop i=xs.getD i 0::xs.toList.drop (i+1):=by
 have h':i<xs.toList.length:=by simpa using h
 rw [EJ h']
 congr 1
 simp [DI,h]
variable {xs ys os:Array Nat} {i j k:Nat}
theorem mj {i:Nat} (h:i<xs.size):xs.getD i 0∈xs.toList:=by
 have:xs.getD i 0=xs[i]:=by simp [DI,h]
 rw [this]; simp
theorem Two.ah (T:Two O xs ys) {x y:Nat} (hx:x∈xs.toList) (hy:y∈ys.toList) (h:O.lt y x=false):Ah O.lt x y:=⟨h,λ _=>T.xy x hx y hy⟩
theorem hX (xs:Array Nat) (i:Nat):(xs.extract i xs.size).toList=xs.toList.drop i:=by
 rw [E5,Ez]
 exact Da (by simp)
theorem Lw.done (L:Lw O xs ys os i j) (h:j=ys.size):m9 O xs ys (os++xs.extract i xs.size++ys.extract j ys.size):=by
 subst h
 have e:(os++xs.extract i xs.size++ys.extract ys.size ys.size).toList=os.toList++xs.toList.drop i:=by rw [Ec,Ec,hX,hX]; simp
 have pm:=L.pm
 have e2:ys.toList.drop ys.size=[]:=by simp
 rw [e2,Ef] at pm
 exact ⟨by rw [e]; exact pm,by rw [e]; exact L.sa⟩
theorem Lw.done2 (L:Lw O xs ys os i j) (h:i=xs.size):m9 O xs ys (os++xs.extract i xs.size++ys.extract j ys.size):=by
 subst h
 have e:(os++xs.extract xs.size xs.size++ys.extract j ys.size).toList=os.toList++ys.toList.drop j:=by rw [Ec,Ec,hX,hX]; simp
 have pm:=L.pm
 have e2:xs.toList.drop xs.size=[]:=by simp
 rw [e2,Ge] at pm
 exact ⟨by rw [e]; exact pm,by rw [e]; exact L.sb⟩
theorem Lw.last (T:Two O xs ys) (L:Lw O xs ys os i j) (h:i+1=xs.size) (hl:∀ y∈ys.toList,O.lt y (xs.getD (xs.size - 1) 0)=true):m9 O xs ys (os++ys.extract j ys.size++xs.extract i xs.size):=by
 have e:(os++ys.extract j ys.size++xs.extract i xs.size).toList=os.toList++ys.toList.drop j++xs.toList.drop i:=by rw [Ec,Ec,hX,hX]
 refine ⟨?_,?_⟩
 ·rw [e,DH]
  exact ((D0 _).append Jh).trans L.pm
 ·rw [e]
  have hd:xs.toList.drop i=[xs.getD (xs.size - 1) 0]:=by
   rw [hW (by lia)]
   have:xs.toList.drop (i+1)=[]:=by rw [h]; simp
   rw [this,show xs.size - 1=i by lia]
  refine Dq.mpr ⟨L.sb,(Dq.mp L.sa).2.1,λ a ha c hc=>?_⟩
  rcases DG.mp ha with ha | ha
  ·exact (Dq.mp L.sa).2.2 a ha c hc
  ·rw [hd] at hc
   rw [Dk.mp hc]
   exact Ah.of_lt T.H (hl a (DO ha))
theorem Lw.stepB (T:Two O xs ys) (L:Lw O xs ys os i j) (hi:i<xs.size) (hj:j<ys.size) (h:O.lt (ys.getD j 0) (xs.getD i 0)=true):Lw O xs ys (os.push (ys.getD j 0)) i (j+1):=by
 have e:(os.push (ys.getD j 0)).toList=os.toList++[ys.getD j 0]:=by simp
 have hy:=hW hj
 have pm:=L.pm; have sa:=L.sa; have sb:=L.sb
 rw [hy] at pm sb
 refine ⟨?_,?_,?_,L.ti,by lia⟩
 ·rw [e,DH]
  refine Fi (FB _ ?_) pm
  exact (GU (a:=ys.getD j 0) (l₁:=xs.toList.drop i)).symm
 ·rw [e,DH]
  obtain ⟨s1,s2,s3⟩:=Dq.mp sa
  obtain ⟨t1,t2,t3⟩:=Dq.mp sb
  refine Dq.mpr ⟨s1,Em.mpr ⟨λ c hc=>?_,s2⟩,λ a ha c hc=>?_⟩
  ·rw [hW hi] at hc s2
   rcases Dx.mp hc with rfl | hc
   ·exact Ah.of_lt T.H h
   ·exact (Ah.of_lt T.H h).trans T.H ((Em.mp s2).1 c hc)
  ·rcases Dx.mp hc with rfl | hc
   ·exact t3 a ha _ (DF ..)
   ·exact s3 a ha c hc
 ·rw [e,DH]; exact sb
theorem Lw.stepA (T:Two O xs ys) (L:Lw O xs ys os i j) (hi:i<xs.size) (hj:j<ys.size) (h:O.lt (ys.getD j 0) (xs.getD i 0)=false):Lw O xs ys (os.push (xs.getD i 0)) (i+1) j:=by
 have e:(os.push (xs.getD i 0)).toList=os.toList++[xs.getD i 0]:=by simp
 have hx:=hW hi
 have pm:=L.pm; have sa:=L.sa; have sb:=L.sb
 rw [hx] at pm sa
 refine ⟨?_,?_,?_,by lia,L.tj⟩
 ·rw [e,DH]; exact pm
 ·rw [e,DH]; exact sa
 ·rw [e,DH]
  obtain ⟨s1,s2,s3⟩:=Dq.mp sa
  obtain ⟨t1,t2,t3⟩:=Dq.mp sb
  have h0:Ah O.lt (xs.getD i 0) (ys.getD j 0):=T.ah (mj hi) (mj hj) h
  refine Dq.mpr ⟨s1,Em.mpr ⟨λ c hc=>?_,t2⟩,λ a ha c hc=>?_⟩
  ·rw [hW hj] at hc t2
   rcases Dx.mp hc with rfl | hc
   ·exact h0
   ·exact h0.trans T.H ((Em.mp t2).1 c hc)
  ·rcases Dx.mp hc with rfl | hc
   ·exact s3 a ha _ (DF ..)
   ·exact t3 a ha c hc
theorem n9 {os xs:Array Nat} {i k:Nat} (h:i+k<xs.size):(os++xs.extract i (i+k)).push (xs.getD (i+k) 0)=os++xs.extract i (i+(k+1)):=by
 apply E2.mp
 have e:xs.getD (i+k) 0=xs[i+k]:=by simp [DI,h]
 rw [e]
 simp only [FF,Ec,E5,DH]
 congr 1
 have hl:k<(xs.toList.drop i).length:=by simp; lia
 rw [Ez,Ez,show i+k - i=k by lia,show i+(k+1) - i=k+1 by lia,Fc hl]
 simp
theorem Lw.manyA (T:Two O xs ys) (hj:j<ys.size):∀ k,Lw O xs ys os i j->i+k<=xs.size->(∀ d,d<k->O.lt (ys.getD j 0) (xs.getD (i+d) 0)=false)->Lw O xs ys (os++xs.extract i (i+k)) (i+k) j
 | 0,L,_,_=>by
  have e:os++xs.extract i (i+0)=os:=by apply E2.mp; simp
  rw [e]; exact L
 | k+1,L,hk,h=>by
  have L':=Lw.manyA T hj k L (by lia) λ d hd=>h d (by lia)
  have:=L'.stepA T (by lia) hj (h k (by lia))
  rw [n9 (by lia)] at this
  exact this
theorem Lw.manyB (T:Two O xs ys) (hi:i<xs.size):∀ k,Lw O xs ys os i j->j+k<=ys.size->(∀ d,d<k->O.lt (ys.getD (j+d) 0) (xs.getD i 0)=true)->Lw O xs ys (os++ys.extract j (j+k)) i (j+k)
 | 0,L,_,_=>by
  have e:os++ys.extract j (j+0)=os:=by apply E2.mp; simp
  rw [e]; exact L
 | k+1,L,hk,h=>by
  have L':=Lw.manyB T hi k L (by lia) λ d hd=>h d (by lia)
  have:=L'.stepB T hi (by lia) (h k (by lia))
  rw [n9 (by lia)] at this
  exact this
theorem kn {P:Nat->Bool}:∀ (m:Nat),(∀ i j,i<=j->j<m->P j=true->P i=true)->∃ K,K<=m/\(∀ i,i<K->P i=true)/\∀ i,K<=i->i<m->P i=false
 | 0,_=>⟨0,C8 _,λ i h=>absurd h (EF _),λ i _ h=>absurd h (EF _)⟩
 | m+1,h=>by
  obtain ⟨K,a,c,d⟩:=kn m λ i j h1 h2 h3=>h i j h1 (by lia) h3
  cases e:P m with
  | true=>exact ⟨m+1,C8 _,λ i hi=>h i m (by lia) (by lia) e,λ i h1 h2=>by lia⟩
  | false=>
   refine ⟨K,by lia,c,λ i h1 h2=>?_⟩
   rcases El i m with z | z
   ·exact d i h1 z
   ·have:i=m:=by lia
    subst this; exact e
theorem zV {xs:Array Nat} (h:xs.toList.Pairwise (Ah O.lt)) {i j:Nat} (hij:i<j) (hj:j<xs.size):Ah O.lt (xs.getD i 0) (xs.getD j 0):=by
 have:=DK.mp h i j (by simp; lia) (by simpa using hj) hij
 have e1:xs.getD i 0=xs[i]:=by simp [DI,show i<xs.size by lia]
 have e2:xs.getD j 0=xs[j]:=by simp [DI,hj]
 rw [e1,e2]; simpa using this
theorem Two.monoA (T:Two O xs ys) {y d:Nat} (h1:c<=d) (h2:i+d<xs.size) (h3:bey O false y xs i d=true):bey O false y xs i c=true:=by
 simp only [bey,Dh,if_false,Ij] at h3 ⊢
 rcases Ff h1 with rfl | h1
 ·exact h3
 ·exact T.H.tr _ _ _ h3 (zV T.sx (show i+c<i+d by lia) h2).1
theorem Two.monoB (T:Two O xs ys) {x d:Nat} (h1:c<=d) (h2:j+d<ys.size) (h3:bey O true x ys j d=true):bey O true x ys j c=true:=by
 simp only [bey,if_true] at h3 ⊢
 rcases Ff h1 with rfl | h1
 ·exact h3
 ·exact lc T.H h3 (zV T.sy (show j+c<j+d by lia) h2).1
theorem W.mLo {Q:Array Keyed->Ab->Prop} (T:Two O xs ys) (h0:O.lt (ys.getD 0 0) (xs.getD 0 0)=true) (hl:∀ y∈ys.toList,O.lt y (xs.getD (xs.size - 1) 0)=true)
  (h:∀ rs mg,m9 O xs ys rs->Q (rs.map (kas_item O.it)) { b with mg:=mg }):W O (mLo (xs.map (kas_item O.it)) (ys.map (kas_item O.it))) Q b:=by
 have x1:=T.x1
 have y1:=T.y1
 have L0:Lw O xs ys #[] 0 0:=⟨by simp,by simpa using T.sx,by simpa using T.sy,Du _,Du _⟩
 have L1:=L0.stepB T x1 y1 h0
 have mpush:∀ (os:Array Nat) (x:Nat),(os.map (kas_item O.it)).push (kas_item O.it x)=(os.push x).map (kas_item O.it):=λ os x=>by rw [KM]
 have mapp:∀ (os zs:Array Nat),os.map (kas_item O.it)++zs.map (kas_item O.it)=(os++zs).map (kas_item O.it):=λ os zs=>by rw [Kq]
 have mext:∀ (zs:Array Nat) (i j:Nat),(zs.map (kas_item O.it)).extract i j=(zs.extract i j).map (kas_item O.it):=λ zs i j=>by rw [Ik]
 rw [zU]
 refine W.bind (W.rule ?_)
 refine W.bind (W.elem y1 ?_)
 simp only [Hi,mext,mapp]
 have e1:#[kas_item O.it (ys.getD 0 0)]=((#[]:Array Nat).push (ys.getD 0 0)).map (kas_item O.it):=by simp
 rw [e1]
 by_cases c1:(1 == ys.size)=true
 ·rw [if_pos c1]
  simp only [mapp]
  exact W.pure (h _ b.mg (L1.done (by simpa using c1)))
 rw [if_neg c1]
 by_cases c2:(0+1 == xs.size)=true
 ·rw [if_pos c2]
  simp only [mapp]
  exact W.pure (h _ b.mg (L1.last T (by simpa using c2) hl))
 rw [if_neg c2]
 refine W.bind (W.get ?_)
 have ex:∀ {P:Nat->Bool} (m:Nat),(∀ i j,i<=j->j<m->P j=true->P i=true)->∃ K,K<=m/\(∀ i,i<K->P i=true)/\∀ i,K<=i->i<m->P i=false:=λ m h=>kn m h
 have KA:∀ i j,i<xs.size->j<ys.size->∃ K,K<=xs.size - i/\(∀ d,d<K->bey O false (ys.getD j 0) xs i d=true)/\∀ d,K<=d->d<xs.size - i->bey O false (ys.getD j 0) xs i d=false:=λ i j hi hj=>ex _ λ c d h1 h2 h3=>T.monoA h1 (by lia) h3
 have KB:∀ i j,i<xs.size->j<ys.size->∃ K,K<=ys.size - j/\(∀ d,d<K->bey O true (xs.getD i 0) ys j d=true)/\∀ d,K<=d->d<ys.size - j->bey O true (xs.getD i 0) ys j d=false:=λ i j hi hj=>ex _ λ c d h1 h2 h3=>T.monoB h1 (by lia) h3
 have c1:1<ys.size:=by (have:¬ 1=ys.size:=(by simpa using c1)); lia
 have c2:1<xs.size:=by (have:¬ 1=xs.size:=(by simpa using c2)); lia
 refine W.bind (W.range (D:=λ c b1=>b1.p=b.p/\b1.pd=b.pd/\∃ rs:Array Nat,c.1=some (rs.map (kas_item O.it))/\m9 O xs ys rs) (λ k c b1=>b1.p=b.p/\b1.pd=b.pd/\c.1=none/\∃ os:Array Nat,c.2.1=os.map (kas_item O.it)/\Lw O xs ys os c.2.2.1 c.2.2.2.1/\c.2.2.1+1<xs.size/\c.2.2.2.1<ys.size/\xs.size+ys.size+1<=c.2.2.1+c.2.2.2.1+k) ⟨rfl,rfl,rfl,_,rfl,L1,c2,c1,by show xs.size+ys.size+1<=0+1+(xs.size+ys.size - 0); lia⟩ ?_ ?_ |>.mono λ c b1 hc=>?_)
 rotate_left
 ·rintro ⟨r,o,i,j,g⟩ b1 ⟨f1,f2,_,os,_,L,hi,hj,hk⟩
  dsimp only at hi hj hk
  exact absurd hk (by lia)
 ·obtain ⟨r,o,i,j,g⟩:=c
  obtain ⟨f1,f2,rs,e,hm⟩:=hc
  dsimp only at e ⊢
  subst e
  have:=h rs b1.mg hm
  obtain ⟨p1,d1,m1⟩:=b1
  have f1:p1=b.p:=f1
  have f2:d1=b.pd:=f2
  subst f1 f2
  exact W.pure this
 rintro x k ⟨r,o,i0,j0,g0⟩ b1 ⟨f1,f2,e,os0,eo,L,hi0,hj0,hk⟩
 dsimp only at e eo hi0 hj0 hk L ⊢
 subst e eo
 refine W.bind (W.range (D:=λ c b1=>b1.p=b.p/\b1.pd=b.pd/\((∃ rs:Array Nat,c.1=some (rs.map (kas_item O.it))/\m9 O xs ys rs)\/(c.1=none/\∃ os:Array Nat,c.2.1=os.map (kas_item O.it)/\Lw O xs ys os c.2.2.1 c.2.2.2.1/\c.2.2.1+1<xs.size/\c.2.2.2.1<ys.size/\i0+j0+1<=c.2.2.1+c.2.2.2.1))) (λ k c b1=>b1.p=b.p/\b1.pd=b.pd/\c.1=none/\∃ os:Array Nat,c.2.1=os.map (kas_item O.it)/\Lw O xs ys os c.2.2.1 c.2.2.2.1/\c.2.2.1+1<xs.size/\c.2.2.2.1<ys.size/\i0+j0+(xs.size+ys.size)<=c.2.2.1+c.2.2.2.1+k/\i0+j0<=c.2.2.1+c.2.2.2.1) ⟨f1,f2,rfl,_,rfl,L,hi0,hj0,by show i0+j0+(xs.size+ys.size)<=i0+j0+(xs.size+ys.size - 0)/\i0+j0<=i0+j0; lia⟩ ?_ ?_ |>.mono λ c b1 hc=>?_)
 ·rintro x k ⟨r,o,i,j,ca,cb⟩ b1 ⟨f1,f2,e,os,eo,L,hi,hj,hk1,hk2⟩
  dsimp only at e eo hi hj hk1 hk2 L ⊢
  subst e eo
  refine W.bind (W.elem hj (W.bind (W.elem (by lia) (W.bind (W.lt (T.ny _ hj) (T.nx _ (by lia)) ?_)))))
  cases e:O.lt (ys.getD j 0) (xs.getD i 0) with
  | true=>
   have L':=L.stepB T (by lia) hj e
   simp only [if_true]
   refine W.bind (W.elem hj ?_)
   simp only [mpush,mapp]
   by_cases q:(j+1 == ys.size)=true
   ·rw [if_pos q]
    exact W.pure ⟨f1,f2,.inl ⟨_,rfl,L'.done (by simpa using q)⟩⟩
   ·rw [if_neg q]
    have q':¬ j+1=ys.size:=by simpa using q
    refine W.ite (λ _=>?_) (λ _=>?_)
    ·exact W.pure ⟨f1,f2,.inr ⟨rfl,_,rfl,L',hi,by show j+1<ys.size; lia,by show i0+j0+1<=i+(j+1); lia⟩⟩
    ·exact W.pure ⟨f1,f2,rfl,_,rfl,L',hi,by show j+1<ys.size; lia,by show i0+j0+(xs.size+ys.size)<=i+(j+1)+k/\i0+j0<=i+(j+1); lia⟩
  | false=>
   have L':=L.stepA T (by lia) hj e
   simp only [Dh,if_false]
   refine W.bind (W.elem (by lia) ?_)
   simp only [mpush,mapp]
   by_cases q:(i+1+1 == xs.size)=true
   ·rw [if_pos q]
    exact W.pure ⟨f1,f2,.inl ⟨_,rfl,L'.last T (by simpa using q) hl⟩⟩
   ·rw [if_neg q]
    have q':¬ i+1+1=xs.size:=by simpa using q
    refine W.ite (λ _=>?_) (λ _=>?_)
    ·exact W.pure ⟨f1,f2,.inr ⟨rfl,_,rfl,L',by show i+1+1<xs.size; lia,hj,by show i0+j0+1<=i+1+j; lia⟩⟩
    ·exact W.pure ⟨f1,f2,rfl,_,rfl,L',by show i+1+1<xs.size; lia,hj,by show i0+j0+(xs.size+ys.size)<=i+1+j+k/\i0+j0<=i+1+j; lia⟩
 ·rintro ⟨r,o,i,j,ca,cb⟩ b1 ⟨f1,f2,_,os,_,L,hi,hj,hk1,hk2⟩
  dsimp only at hi hj hk1 hk2
  exact absurd hk1 (by lia)
 obtain ⟨r,o,i1,j1,ca,cb⟩:=c
 obtain ⟨f1,f2,hc⟩:=hc
 dsimp only at hc ⊢
 rcases hc with ⟨rs,e,hm⟩ | ⟨e,os1,eo,L,hi1,hj1,hk1⟩
 ·subst e
  exact W.pure ⟨f1,f2,rs,rfl,hm⟩
 subst e eo
 dsimp only
 refine W.bind (W.rule ?_)
 refine W.bind (W.range (D:=λ c b1=>b1.p=b.p/\b1.pd=b.pd/\((∃ rs:Array Nat,c.1=some (rs.map (kas_item O.it))/\m9 O xs ys rs)\/(c.1=none/\∃ os:Array Nat,c.2.1=os.map (kas_item O.it)/\Lw O xs ys os c.2.2.1 c.2.2.2.1/\c.2.2.1+1<xs.size/\c.2.2.2.1<ys.size/\i1+j1<=c.2.2.1+c.2.2.2.1))) (λ k c b1=>b1.p=b.p/\b1.pd=b.pd/\c.1=none/\∃ os:Array Nat,c.2.1=os.map (kas_item O.it)/\Lw O xs ys os c.2.2.1 c.2.2.2.1/\c.2.2.1+1<xs.size/\c.2.2.2.1<ys.size/\i1+j1+(xs.size+ys.size)<=c.2.2.1+c.2.2.2.1+k/\i1+j1<=c.2.2.1+c.2.2.2.1) ⟨f1,f2,rfl,_,rfl,L,hi1,hj1,by show i1+j1+(xs.size+ys.size)<=i1+j1+(xs.size+ys.size - 0)/\i1+j1<=i1+j1; lia⟩ ?_ ?_ |>.mono λ c b1 hc=>?_)
 ·rintro x k ⟨r,o,i,j,g,ca,cb⟩ b1 ⟨f1,f2,e,os,eo,L,hi,hj,hk1,hk2⟩
  dsimp only at e eo hi hj hk1 hk2 L ⊢
  subst e eo
  obtain ⟨K,hK,hK1,hK2⟩:=KA i j (by lia) hj
  have LK:=L.manyA T hj K (by lia) λ d hd=>by have:=hK1 d hd; simpa [bey] using this
  by_cases hg:g > 1
  ·rw [if_pos hg]
   refine W.bind (W.setMG ?_)
   refine W.bind (W.elem hj (W.bind (W.gal (K:=K) (T.ny _ hj) T.nx (by lia) (by lia) hK hK1 hK2 ?_)))
   dsimp only
   by_cases z:K > 0
   ·rw [if_pos z]
    simp only [mapp]
    by_cases q:(i+K+1 == xs.size)=true
    ·rw [if_pos q]
     exact W.pure ⟨f1,f2,.inl ⟨_,rfl,LK.last T (by simpa using q) hl⟩⟩
    rw [if_neg q]
    have q':¬ i+K+1=xs.size:=by simpa using q
    by_cases q1:(i+K == xs.size)=true
    ·rw [if_pos q1]
     exact W.pure ⟨f1,f2,.inl ⟨_,rfl,LK.done2 (by simpa using q1)⟩⟩
    rw [if_neg q1]
    have q1':¬ i+K=xs.size:=by simpa using q1
    have L2:=LK.stepB T (by lia) hj (by have:=hK2 K (C8 _) (by lia); simpa [bey] using this)
    refine W.bind (W.elem hj ?_)
    simp only [mpush,mapp]
    by_cases q2:(j+1 == ys.size)=true
    ·rw [if_pos q2]
     exact W.pure ⟨f1,f2,.inl ⟨_,rfl,L2.done (by simpa using q2)⟩⟩
    rw [if_neg q2]
    have q2':¬ j+1=ys.size:=by simpa using q2
    obtain ⟨K',hK',hB1,hB2⟩:=KB (i+K) (j+1) (by lia) (by lia)
    have LB:=L2.manyB T (by lia) K' (by lia) λ d hd=>by have:=hB1 d hd; simpa [bey] using this
    refine W.bind (W.elem (by lia) (W.bind (W.gal (K:=K') (T.nx _ (by lia)) T.ny (by lia) (by lia) hK' hB1 hB2 ?_)))
    dsimp only
    by_cases z':K' > 0
    ·rw [if_pos z']
     by_cases q4:(j+1+K' == ys.size)=true
     ·rw [if_pos q4]
      exact W.pure ⟨f1,f2,.inl ⟨_,rfl,LB.done (by simpa using q4)⟩⟩
     rw [if_neg q4]
     have q4':¬ j+1+K'=ys.size:=by simpa using q4
     have L3:=LB.stepA T (by lia) (by lia) (by have:=hB2 K' (C8 _) (by lia); simpa [bey] using this)
     refine W.bind (W.elem (by lia) ?_)
     simp only [mpush,mapp]
     by_cases q3:(i+K+1+1 == xs.size)=true
     ·rw [if_pos q3]
      exact W.pure ⟨f1,f2,.inl ⟨_,rfl,L3.last T (by simpa using q3) hl⟩⟩
     ·rw [if_neg q3]
      have q3':¬ i+K+1+1=xs.size:=by simpa using q3
      refine W.ite (λ _=>?_) (λ _=>?_)
      ·exact W.pure ⟨f1,f2,.inr ⟨rfl,_,rfl,L3,by show i+K+1+1<xs.size; lia,by show j+1+K'<ys.size; lia,by show i1+j1<=i+K+1+(j+1+K'); lia⟩⟩
      ·exact W.pure ⟨f1,f2,rfl,_,rfl,L3,by show i+K+1+1<xs.size; lia,by show j+1+K'<ys.size; lia,by show i1+j1+(xs.size+ys.size)<=i+K+1+(j+1+K')+k/\i1+j1<=i+K+1+(j+1+K'); lia⟩
    ·rw [if_neg z']
     have ek:K'=0:=by lia
     have L3:=L2.stepA T (by lia) (by lia) (by have:=hB2 0 (by lia) (by lia); simpa [bey] using this)
     refine W.bind (W.elem (by lia) ?_)
     simp only [mpush,mapp]
     by_cases q3:(i+K+1+1 == xs.size)=true
     ·rw [if_pos q3]
      exact W.pure ⟨f1,f2,.inl ⟨_,rfl,L3.last T (by simpa using q3) hl⟩⟩
     ·rw [if_neg q3]
      have q3':¬ i+K+1+1=xs.size:=by simpa using q3
      refine W.ite (λ _=>?_) (λ _=>?_)
      ·exact W.pure ⟨f1,f2,.inr ⟨rfl,_,rfl,L3,by show i+K+1+1<xs.size; lia,by show j+1<ys.size; lia,by show i1+j1<=i+K+1+(j+1); lia⟩⟩
      ·exact W.pure ⟨f1,f2,rfl,_,rfl,L3,by show i+K+1+1<xs.size; lia,by show j+1<ys.size; lia,by show i1+j1+(xs.size+ys.size)<=i+K+1+(j+1)+k/\i1+j1<=i+K+1+(j+1); lia⟩
   ·rw [if_neg z]
    have ek:K=0:=by lia
    have L2:=L.stepB T (by lia) hj (by have:=hK2 0 (by lia) (by lia); simpa [bey] using this)
    refine W.bind (W.elem hj ?_)
    simp only [mpush,mapp]
    by_cases q2:(j+1 == ys.size)=true
    ·rw [if_pos q2]
     exact W.pure ⟨f1,f2,.inl ⟨_,rfl,L2.done (by simpa using q2)⟩⟩
    rw [if_neg q2]
    have q2':¬ j+1=ys.size:=by simpa using q2
    obtain ⟨K',hK',hB1,hB2⟩:=KB (i) (j+1) (by lia) (by lia)
    have LB:=L2.manyB T (by lia) K' (by lia) λ d hd=>by have:=hB1 d hd; simpa [bey] using this
    refine W.bind (W.elem (by lia) (W.bind (W.gal (K:=K') (T.nx _ (by lia)) T.ny (by lia) (by lia) hK' hB1 hB2 ?_)))
    dsimp only
    by_cases z':K' > 0
    ·rw [if_pos z']
     by_cases q4:(j+1+K' == ys.size)=true
     ·rw [if_pos q4]
      exact W.pure ⟨f1,f2,.inl ⟨_,rfl,LB.done (by simpa using q4)⟩⟩
     rw [if_neg q4]
     have q4':¬ j+1+K'=ys.size:=by simpa using q4
     have L3:=LB.stepA T (by lia) (by lia) (by have:=hB2 K' (C8 _) (by lia); simpa [bey] using this)
     refine W.bind (W.elem (by lia) ?_)
     simp only [mpush,mapp]
     by_cases q3:(i+1+1 == xs.size)=true
     ·rw [if_pos q3]
      exact W.pure ⟨f1,f2,.inl ⟨_,rfl,L3.last T (by simpa using q3) hl⟩⟩
     ·rw [if_neg q3]
      have q3':¬ i+1+1=xs.size:=by simpa using q3
      refine W.ite (λ _=>?_) (λ _=>?_)
      ·exact W.pure ⟨f1,f2,.inr ⟨rfl,_,rfl,L3,by show i+1+1<xs.size; lia,by show j+1+K'<ys.size; lia,by show i1+j1<=i+1+(j+1+K'); lia⟩⟩
      ·exact W.pure ⟨f1,f2,rfl,_,rfl,L3,by show i+1+1<xs.size; lia,by show j+1+K'<ys.size; lia,by show i1+j1+(xs.size+ys.size)<=i+1+(j+1+K')+k/\i1+j1<=i+1+(j+1+K'); lia⟩
    ·rw [if_neg z']
     have ek:K'=0:=by lia
     have L3:=L2.stepA T (by lia) (by lia) (by have:=hB2 0 (by lia) (by lia); simpa [bey] using this)
     refine W.bind (W.elem (by lia) ?_)
     simp only [mpush,mapp]
     by_cases q3:(i+1+1 == xs.size)=true
     ·rw [if_pos q3]
      exact W.pure ⟨f1,f2,.inl ⟨_,rfl,L3.last T (by simpa using q3) hl⟩⟩
     ·rw [if_neg q3]
      have q3':¬ i+1+1=xs.size:=by simpa using q3
      refine W.ite (λ _=>?_) (λ _=>?_)
      ·exact W.pure ⟨f1,f2,.inr ⟨rfl,_,rfl,L3,by show i+1+1<xs.size; lia,by show j+1<ys.size; lia,by show i1+j1<=i+1+(j+1); lia⟩⟩
      ·exact W.pure ⟨f1,f2,rfl,_,rfl,L3,by show i+1+1<xs.size; lia,by show j+1<ys.size; lia,by show i1+j1+(xs.size+ys.size)<=i+1+(j+1)+k/\i1+j1<=i+1+(j+1); lia⟩
  ·rw [if_neg hg]
   refine W.bind (W.setMG ?_)
   refine W.bind (W.elem hj (W.bind (W.gal (K:=K) (T.ny _ hj) T.nx (by lia) (by lia) hK hK1 hK2 ?_)))
   dsimp only
   by_cases z:K > 0
   ·rw [if_pos z]
    simp only [mapp]
    by_cases q:(i+K+1 == xs.size)=true
    ·rw [if_pos q]
     exact W.pure ⟨f1,f2,.inl ⟨_,rfl,LK.last T (by simpa using q) hl⟩⟩
    rw [if_neg q]
    have q':¬ i+K+1=xs.size:=by simpa using q
    by_cases q1:(i+K == xs.size)=true
    ·rw [if_pos q1]
     exact W.pure ⟨f1,f2,.inl ⟨_,rfl,LK.done2 (by simpa using q1)⟩⟩
    rw [if_neg q1]
    have q1':¬ i+K=xs.size:=by simpa using q1
    have L2:=LK.stepB T (by lia) hj (by have:=hK2 K (C8 _) (by lia); simpa [bey] using this)
    refine W.bind (W.elem hj ?_)
    simp only [mpush,mapp]
    by_cases q2:(j+1 == ys.size)=true
    ·rw [if_pos q2]
     exact W.pure ⟨f1,f2,.inl ⟨_,rfl,L2.done (by simpa using q2)⟩⟩
    rw [if_neg q2]
    have q2':¬ j+1=ys.size:=by simpa using q2
    obtain ⟨K',hK',hB1,hB2⟩:=KB (i+K) (j+1) (by lia) (by lia)
    have LB:=L2.manyB T (by lia) K' (by lia) λ d hd=>by have:=hB1 d hd; simpa [bey] using this
    refine W.bind (W.elem (by lia) (W.bind (W.gal (K:=K') (T.nx _ (by lia)) T.ny (by lia) (by lia) hK' hB1 hB2 ?_)))
    dsimp only
    by_cases z':K' > 0
    ·rw [if_pos z']
     by_cases q4:(j+1+K' == ys.size)=true
     ·rw [if_pos q4]
      exact W.pure ⟨f1,f2,.inl ⟨_,rfl,LB.done (by simpa using q4)⟩⟩
     rw [if_neg q4]
     have q4':¬ j+1+K'=ys.size:=by simpa using q4
     have L3:=LB.stepA T (by lia) (by lia) (by have:=hB2 K' (C8 _) (by lia); simpa [bey] using this)
     refine W.bind (W.elem (by lia) ?_)
     simp only [mpush,mapp]
     by_cases q3:(i+K+1+1 == xs.size)=true
     ·rw [if_pos q3]
      exact W.pure ⟨f1,f2,.inl ⟨_,rfl,L3.last T (by simpa using q3) hl⟩⟩
     ·rw [if_neg q3]
      have q3':¬ i+K+1+1=xs.size:=by simpa using q3
      refine W.ite (λ _=>?_) (λ _=>?_)
      ·exact W.pure ⟨f1,f2,.inr ⟨rfl,_,rfl,L3,by show i+K+1+1<xs.size; lia,by show j+1+K'<ys.size; lia,by show i1+j1<=i+K+1+(j+1+K'); lia⟩⟩
      ·exact W.pure ⟨f1,f2,rfl,_,rfl,L3,by show i+K+1+1<xs.size; lia,by show j+1+K'<ys.size; lia,by show i1+j1+(xs.size+ys.size)<=i+K+1+(j+1+K')+k/\i1+j1<=i+K+1+(j+1+K'); lia⟩
    ·rw [if_neg z']
     have ek:K'=0:=by lia
     have L3:=L2.stepA T (by lia) (by lia) (by have:=hB2 0 (by lia) (by lia); simpa [bey] using this)
     refine W.bind (W.elem (by lia) ?_)
     simp only [mpush,mapp]
     by_cases q3:(i+K+1+1 == xs.size)=true
     ·rw [if_pos q3]
      exact W.pure ⟨f1,f2,.inl ⟨_,rfl,L3.last T (by simpa using q3) hl⟩⟩
     ·rw [if_neg q3]
      have q3':¬ i+K+1+1=xs.size:=by simpa using q3
      refine W.ite (λ _=>?_) (λ _=>?_)
      ·exact W.pure ⟨f1,f2,.inr ⟨rfl,_,rfl,L3,by show i+K+1+1<xs.size; lia,by show j+1<ys.size; lia,by show i1+j1<=i+K+1+(j+1); lia⟩⟩
      ·exact W.pure ⟨f1,f2,rfl,_,rfl,L3,by show i+K+1+1<xs.size; lia,by show j+1<ys.size; lia,by show i1+j1+(xs.size+ys.size)<=i+K+1+(j+1)+k/\i1+j1<=i+K+1+(j+1); lia⟩
   ·rw [if_neg z]
    have ek:K=0:=by lia
    have L2:=L.stepB T (by lia) hj (by have:=hK2 0 (by lia) (by lia); simpa [bey] using this)
    refine W.bind (W.elem hj ?_)
    simp only [mpush,mapp]
    by_cases q2:(j+1 == ys.size)=true
    ·rw [if_pos q2]
     exact W.pure ⟨f1,f2,.inl ⟨_,rfl,L2.done (by simpa using q2)⟩⟩
    rw [if_neg q2]
    have q2':¬ j+1=ys.size:=by simpa using q2
    obtain ⟨K',hK',hB1,hB2⟩:=KB (i) (j+1) (by lia) (by lia)
    have LB:=L2.manyB T (by lia) K' (by lia) λ d hd=>by have:=hB1 d hd; simpa [bey] using this
    refine W.bind (W.elem (by lia) (W.bind (W.gal (K:=K') (T.nx _ (by lia)) T.ny (by lia) (by lia) hK' hB1 hB2 ?_)))
    dsimp only
    by_cases z':K' > 0
    ·rw [if_pos z']
     by_cases q4:(j+1+K' == ys.size)=true
     ·rw [if_pos q4]
      exact W.pure ⟨f1,f2,.inl ⟨_,rfl,LB.done (by simpa using q4)⟩⟩
     rw [if_neg q4]
     have q4':¬ j+1+K'=ys.size:=by simpa using q4
     have L3:=LB.stepA T (by lia) (by lia) (by have:=hB2 K' (C8 _) (by lia); simpa [bey] using this)
     refine W.bind (W.elem (by lia) ?_)
     simp only [mpush,mapp]
     by_cases q3:(i+1+1 == xs.size)=true
     ·rw [if_pos q3]
      exact W.pure ⟨f1,f2,.inl ⟨_,rfl,L3.last T (by simpa using q3) hl⟩⟩
     ·rw [if_neg q3]
      have q3':¬ i+1+1=xs.size:=by simpa using q3
      refine W.ite (λ _=>?_) (λ _=>?_)
      ·exact W.pure ⟨f1,f2,.inr ⟨rfl,_,rfl,L3,by show i+1+1<xs.size; lia,by show j+1+K'<ys.size; lia,by show i1+j1<=i+1+(j+1+K'); lia⟩⟩
      ·exact W.pure ⟨f1,f2,rfl,_,rfl,L3,by show i+1+1<xs.size; lia,by show j+1+K'<ys.size; lia,by show i1+j1+(xs.size+ys.size)<=i+1+(j+1+K')+k/\i1+j1<=i+1+(j+1+K'); lia⟩
    ·rw [if_neg z']
     have ek:K'=0:=by lia
     have L3:=L2.stepA T (by lia) (by lia) (by have:=hB2 0 (by lia) (by lia); simpa [bey] using this)
     refine W.bind (W.elem (by lia) ?_)
     simp only [mpush,mapp]
     by_cases q3:(i+1+1 == xs.size)=true
     ·rw [if_pos q3]
      exact W.pure ⟨f1,f2,.inl ⟨_,rfl,L3.last T (by simpa using q3) hl⟩⟩
     ·rw [if_neg q3]
      have q3':¬ i+1+1=xs.size:=by simpa using q3
      refine W.ite (λ _=>?_) (λ _=>?_)
      ·exact W.pure ⟨f1,f2,.inr ⟨rfl,_,rfl,L3,by show i+1+1<xs.size; lia,by show j+1<ys.size; lia,by show i1+j1<=i+1+(j+1); lia⟩⟩
      ·exact W.pure ⟨f1,f2,rfl,_,rfl,L3,by show i+1+1<xs.size; lia,by show j+1<ys.size; lia,by show i1+j1+(xs.size+ys.size)<=i+1+(j+1)+k/\i1+j1<=i+1+(j+1); lia⟩
 ·rintro ⟨r,o,i,j,g,ca,cb⟩ b1 ⟨f1,f2,_,os,_,L,hi,hj,hk1,hk2⟩
  dsimp only at hi hj hk1 hk2
  exact absurd hk1 (by lia)
 obtain ⟨r,o,i2,j2,g2,ca,cb⟩:=c
 obtain ⟨f1,f2,hc⟩:=hc
 dsimp only at hc ⊢
 rcases hc with ⟨rs,e,hm⟩ | ⟨e,os2,eo,L,hi2,hj2,hk2⟩
 ·subst e
  exact W.pure ⟨f1,f2,rs,rfl,hm⟩
 subst e eo
 dsimp only
 exact W.bind (W.setMG (W.pure ⟨f1,f2,rfl,_,rfl,L,hi2,hj2,by show xs.size+ys.size+1<=i2+j2+k; lia⟩))
end
noncomputable def mHi:Array Keyed->Array Keyed->SM (Array Keyed):=sortPriv% PySem.Builtin.mergeHi
theorem zW (a b:Array Keyed):mHi a b=(do
 rule "list.sort.merge-hi"
 let tt:=a.size+b.size
 let dn (o:Array Keyed) (i j:Nat):=a.extract 0 i++b.extract 0 j++o.reverse
 let fb (o:Array Keyed) (i j:Nat):=b.extract 0 j++a.extract 0 i++o.reverse
 let mut i:=a.size - 1
 let mut j:=b.size
 let mut o:Array Keyed:=#[<-elem' a i]
 if i == 0 then return dn o i j
 if j == 1 then return fb o i j
 let mut mg:=gallopOf (<-get)
 for _ in [0:tt] do
  let mut ca:=0
  let mut cb:=0
  for _ in [0:tt] do
   let some aw <-lt' (<-elem' b (j - 1)) (<-elem' a (i - 1)) | return dn o i j
   if aw then
    i:=i - 1; o:=o.push (<-elem' a i); ca:=ca+1; cb:=0
    if i == 0 then return dn o i j
    if ca>=mg then break
   else
    j:=j - 1; o:=o.push (<-elem' b j); cb:=cb+1; ca:=0
    if j == 1 then return fb o i j
    if cb>=mg then break
  rule "list.sort.gallop"
  mg:=mg+1
  for _ in [0:tt] do
   if mg > 1 then mg:=mg - 1
   setMG mg
   let some q <-gal false (<-elem' b (j - 1)) a 0 i (i - 1) | return dn o i j
   let k:=i - q
   ca:=k
   if k > 0 then
    o:=o++(a.extract q i).reverse; i:=q
    if i == 0 then return dn o i j
   j:=j - 1; o:=o.push (<-elem' b j)
   if j == 1 then return fb o i j
   let some q <-gal true (<-elem' a (i - 1)) b 0 j (j - 1) | return dn o i j
   let k:=j - q
   cb:=k
   if k > 0 then
    o:=o++(b.extract q j).reverse; j:=q
    if j == 1 then return fb o i j
    if j == 0 then return dn o i j
   i:=i - 1; o:=o.push (<-elem' a i)
   if i == 0 then return dn o i j
   if ca<7 && cb<7 then break
  mg:=mg+1
  setMG mg
 unsupported "internal:list.sort.merge-bound"):=rfl
section
variable {O:Orc} {b:Ab} {xs ys os:Array Nat} {i j k:Nat}
structure Hw (O:Orc) (xs ys os:Array Nat) (i j:Nat):Prop where
 pm:((xs.toList.take i++ys.toList.take j)++os.toList.reverse).Perm (xs.toList++ys.toList)
 sa:(xs.toList.take i++os.toList.reverse).Pairwise (Ah O.lt)
 sb:(ys.toList.take j++os.toList.reverse).Pairwise (Ah O.lt)
 ti:i<=xs.size
 tj:j<=ys.size
theorem js {xs:Array Nat} {i:Nat} (h0:0<i) (h:i<=xs.size):xs.toList.take i=xs.toList.take (i - 1)++[xs.getD (i - 1) 0]:=by
 obtain ⟨c,rfl⟩:∃ c,i=c+1:=⟨i - 1,by lia⟩
 have h':c<xs.toList.length:=by simp; lia
 rw [Fc h',Nat.add_sub_cancel]
 congr 2
 simp [DI,show c<xs.size by lia]
theorem yt (xs:Array Nat) (i:Nat):(xs.extract 0 i).toList=xs.toList.take i:=by
 rw [E5,Ez]; simp
theorem Hw.done (L:Hw O xs ys os i j) (h:i=0):m9 O xs ys (xs.extract 0 i++ys.extract 0 j++os.reverse):=by
 subst h
 have e:(xs.extract 0 0++ys.extract 0 j++os.reverse).toList=ys.toList.take j++os.toList.reverse:=by rw [Ec,Ec,yt,yt]; simp
 have pm:=L.pm
 rw [Ji,Ge] at pm
 exact ⟨by rw [e]; exact pm,by rw [e]; exact L.sb⟩
theorem Hw.done2 (L:Hw O xs ys os i j) (h:j=0):m9 O xs ys (xs.extract 0 i++ys.extract 0 j++os.reverse):=by
 subst h
 have e:(xs.extract 0 i++ys.extract 0 0++os.reverse).toList=xs.toList.take i++os.toList.reverse:=by rw [Ec,Ec,yt,yt]; simp
 have pm:=L.pm
 rw [Ji,Ef] at pm
 exact ⟨by rw [e]; exact pm,by rw [e]; exact L.sa⟩
theorem Hw.first (T:Two O xs ys) (L:Hw O xs ys os i j) (h:j=1) (h0:O.lt (ys.getD 0 0) (xs.getD 0 0)=true):m9 O xs ys (ys.extract 0 j++xs.extract 0 i++os.reverse):=by
 subst h
 have e:(ys.extract 0 1++xs.extract 0 i++os.reverse).toList=(ys.toList.take 1++xs.toList.take i)++os.toList.reverse:=by rw [Ec,Ec,yt,yt]; simp
 have hd:ys.toList.take 1=[ys.getD 0 0]:=by rw [js (by lia) L.tj]; simp
 refine ⟨by rw [e]; exact (Jh.append_right _).trans L.pm,?_⟩
 obtain ⟨s1,s2,s3⟩:=Dq.mp L.sa
 obtain ⟨t1,t2,t3⟩:=Dq.mp L.sb
 rw [e,hd]
 rw [hd] at t3
 refine Dq.mpr ⟨?_,s2,λ a ha c hc=>?_⟩
 ·refine Em.mpr ⟨λ c hc=>?_,s1⟩
  have hc':c∈xs.toList:=DL hc
  have hx:=T.x1
  have ex:xs.toList=xs.getD 0 0::xs.toList.drop 1:=by have:=hW (xs:=xs) (i:=0) hx; simpa using this
  have sx:=T.sx
  rw [ex] at hc' sx
  rcases Dx.mp hc' with rfl | hc'
  ·exact Ah.of_lt T.H h0
  ·exact (Ah.of_lt T.H h0).trans T.H ((Em.mp sx).1 c hc')
 ·rcases DG.mp ha with ha | ha
  ·exact t3 a ha c hc
  ·exact s3 a ha c hc
theorem Hw.stepA (T:Two O xs ys) (L:Hw O xs ys os i j) (hi:0<i) (hj:0<j) (h:O.lt (ys.getD (j - 1) 0) (xs.getD (i - 1) 0)=true):Hw O xs ys (os.push (xs.getD (i - 1) 0)) (i - 1) j:=by
 have e:(os.push (xs.getD (i - 1) 0)).toList.reverse=xs.getD (i - 1) 0::os.toList.reverse:=by simp
 have ti:=L.ti; have tj:=L.tj
 have hx:=js hi L.ti
 have pm:=L.pm; have sa:=L.sa; have sb:=L.sb
 rw [hx] at pm sa
 have sa':(xs.toList.take (i - 1)++(xs.getD (i - 1) 0::os.toList.reverse)).Pairwise (Ah O.lt):=by simpa using sa
 obtain ⟨s1,s2,s3⟩:=Dq.mp sa'
 obtain ⟨t1,t2,t3⟩:=Dq.mp sb
 refine ⟨?_,by rw [e]; exact sa',?_,by lia,L.tj⟩
 ·rw [e]
  refine Fi ?_ pm
  have:((xs.toList.take (i - 1)++[xs.getD (i - 1) 0])++ys.toList.take j++os.toList.reverse)=xs.toList.take (i - 1)++(xs.getD (i - 1) 0::(ys.toList.take j++os.toList.reverse)):=by simp
  rw [this]
  have e2:(xs.toList.take (i - 1)++ys.toList.take j)++(xs.getD (i - 1) 0::os.toList.reverse)=xs.toList.take (i - 1)++(ys.toList.take j++(xs.getD (i - 1) 0::os.toList.reverse)):=by simp
  rw [e2]
  exact FB _ GU
 ·rw [e]
  have hy:=js hj L.tj
  refine Dq.mpr ⟨t1,s2,λ a ha c hc=>?_⟩
  rcases Dx.mp hc with rfl | hc
  ·rw [hy] at ha t1
   rcases DG.mp ha with ha | ha
   ·exact ((Dq.mp t1).2.2 a ha _ (Dk.mpr rfl)).trans T.H (Ah.of_lt T.H h)
   ·rw [Dk.mp ha]; exact Ah.of_lt T.H h
  ·exact t3 a ha c hc
theorem Hw.stepB (T:Two O xs ys) (L:Hw O xs ys os i j) (hi:0<i) (hj:0<j) (h:O.lt (ys.getD (j - 1) 0) (xs.getD (i - 1) 0)=false):Hw O xs ys (os.push (ys.getD (j - 1) 0)) i (j - 1):=by
 have e:(os.push (ys.getD (j - 1) 0)).toList.reverse=ys.getD (j - 1) 0::os.toList.reverse:=by simp
 have ti:=L.ti; have tj:=L.tj
 have hy:=js hj L.tj
 have pm:=L.pm; have sa:=L.sa; have sb:=L.sb
 rw [hy] at pm sb
 have sb':(ys.toList.take (j - 1)++(ys.getD (j - 1) 0::os.toList.reverse)).Pairwise (Ah O.lt):=by simpa using sb
 obtain ⟨s1,s2,s3⟩:=Dq.mp sa
 obtain ⟨t1,t2,t3⟩:=Dq.mp sb'
 refine ⟨?_,?_,by rw [e]; exact sb',L.ti,by lia⟩
 ·rw [e]
  have e2:(xs.toList.take i++ys.toList.take (j - 1))++(ys.getD (j - 1) 0::os.toList.reverse)=(xs.toList.take i++(ys.toList.take (j - 1)++[ys.getD (j - 1) 0]))++os.toList.reverse:=by simp
  rw [e2]; exact pm
 ·rw [e]
  have hx:=js hi L.ti
  have h0:Ah O.lt (xs.getD (i - 1) 0) (ys.getD (j - 1) 0):=T.ah (mj (by lia)) (mj (by lia)) h
  refine Dq.mpr ⟨s1,t2,λ a ha c hc=>?_⟩
  rcases Dx.mp hc with rfl | hc
  ·rw [hx] at ha s1
   rcases DG.mp ha with ha | ha
   ·exact ((Dq.mp s1).2.2 a ha _ (Dk.mpr rfl)).trans T.H h0
   ·rw [Dk.mp ha]; exact h0
  ·exact s3 a ha c hc
theorem og {os xs:Array Nat} {K k:Nat} (h:K+k<xs.size):os.push (xs.getD (K+k) 0)++(xs.extract K (K+k)).reverse=os++(xs.extract K (K+(k+1))).reverse:=by
 apply E2.mp
 have e:xs.getD (K+k) 0=xs[K+k]:=by simp [DI,h]
 rw [e]
 have hl:k<(xs.toList.drop K).length:=by simp; lia
 simp only [FF,Ec,Array.toList_reverse,E5,DH]
 rw [Ez,Ez,show K+k - K=k by lia,show K+(k+1) - K=k+1 by lia,Fc hl,List.reverse_append]
 simp
theorem Hw.manyA (T:Two O xs ys) (hj:0<j) {K:Nat}:∀ (k:Nat) (os:Array Nat),Hw O xs ys os (K+k) j->(∀ d,K<=d->d<K+k->O.lt (ys.getD (j - 1) 0) (xs.getD d 0)=true)->Hw O xs ys (os++(xs.extract K (K+k)).reverse) K j
 | 0,os,L,_=>by
  have e:os++(xs.extract K (K+0)).reverse=os:=by apply E2.mp; simp
  rw [e]; exact L
 | k+1,os,L,h=>by
  have ti:=L.ti
  have L':=L.stepA T (by lia) hj (h _ (by lia) (by lia))
  rw [show K+(k+1) - 1=K+k by lia] at L'
  have:=Hw.manyA T hj k _ L' λ d h1 h2=>h d h1 (by lia)
  rw [og (by lia)] at this
  exact this
theorem Hw.manyB (T:Two O xs ys) (hi:0<i) {K:Nat}:∀ (k:Nat) (os:Array Nat),Hw O xs ys os i (K+k)->(∀ d,K<=d->d<K+k->O.lt (ys.getD d 0) (xs.getD (i - 1) 0)=false)->Hw O xs ys (os++(ys.extract K (K+k)).reverse) i K
 | 0,os,L,_=>by
  have e:os++(ys.extract K (K+0)).reverse=os:=by apply E2.mp; simp
  rw [e]; exact L
 | k+1,os,L,h=>by
  have tj:=L.tj
  have L':=L.stepB T hi (by lia) (h _ (by lia) (by lia))
  rw [show K+(k+1) - 1=K+k by lia] at L'
  have:=Hw.manyB T hi k _ L' λ d h1 h2=>h d h1 (by lia)
  rw [og (by lia)] at this
  exact this
theorem Hw.manyA' (T:Two O xs ys) (L:Hw O xs ys os i j) (hj:0<j) {K:Nat} (hK:K<=i) (h:∀ d,K<=d->d<i->O.lt (ys.getD (j - 1) 0) (xs.getD d 0)=true):Hw O xs ys (os++(xs.extract K i).reverse) K j:=by
 obtain ⟨k,rfl⟩:∃ k,i=K+k:=⟨i - K,by lia⟩
 exact Hw.manyA T hj k os L h
theorem Hw.manyB' (T:Two O xs ys) (L:Hw O xs ys os i j) (hi:0<i) {K:Nat} (hK:K<=j) (h:∀ d,K<=d->d<j->O.lt (ys.getD d 0) (xs.getD (i - 1) 0)=false):Hw O xs ys (os++(ys.extract K j).reverse) i K:=by
 obtain ⟨k,rfl⟩:∃ k,j=K+k:=⟨j - K,by lia⟩
 exact Hw.manyB T hi k os L h
theorem W.mHi {Q:Array Keyed->Ab->Prop} (T:Two O xs ys) (h0:O.lt (ys.getD 0 0) (xs.getD 0 0)=true) (hl:∀ y∈ys.toList,O.lt y (xs.getD (xs.size - 1) 0)=true)
  (h:∀ rs mg,m9 O xs ys rs->Q (rs.map (kas_item O.it)) { b with mg:=mg }):W O (mHi (xs.map (kas_item O.it)) (ys.map (kas_item O.it))) Q b:=by
 have x1:=T.x1
 have y1:=T.y1
 have tk:∀ zs:Array Nat,zs.toList.take zs.size=zs.toList:=λ zs=>Da (by simp)
 have L0:Hw O xs ys #[] xs.size ys.size:=⟨by rw [tk,tk]; simp,by rw [tk]; simpa using T.sx,by rw [tk]; simpa using T.sy,C8 _,C8 _⟩
 have L1:=L0.stepA T x1 y1 (hl _ (mj (by lia)))
 have mpush:∀ (os:Array Nat) (x:Nat),(os.map (kas_item O.it)).push (kas_item O.it x)=(os.push x).map (kas_item O.it):=λ os x=>by rw [KM]
 have mapp:∀ (os zs:Array Nat),os.map (kas_item O.it)++zs.map (kas_item O.it)=(os++zs).map (kas_item O.it):=λ os zs=>by rw [Kq]
 have mext:∀ (zs:Array Nat) (i j:Nat),(zs.map (kas_item O.it)).extract i j=(zs.extract i j).map (kas_item O.it):=λ zs i j=>by rw [Ik]
 have mrev:∀ (zs:Array Nat),(zs.map (kas_item O.it)).reverse=zs.reverse.map (kas_item O.it):=λ zs=>by rw [Array.map_reverse]
 rw [zW]
 refine W.bind (W.rule ?_)
 simp only [Hi,mext]
 refine W.bind (W.elem (by lia) ?_)
 have e1:#[kas_item O.it (xs.getD (xs.size - 1) 0)]=((#[]:Array Nat).push (xs.getD (xs.size - 1) 0)).map (kas_item O.it):=by simp
 rw [e1]
 by_cases c1:(xs.size - 1 == 0)=true
 ·rw [if_pos c1]
  simp only [mapp,mrev]
  exact W.pure (h _ b.mg (L1.done (by simpa using c1)))
 rw [if_neg c1]
 by_cases c2:(ys.size == 1)=true
 ·rw [if_pos c2]
  simp only [mapp,mrev]
  exact W.pure (h _ b.mg (L1.first T (by simpa using c2) h0))
 rw [if_neg c2]
 refine W.bind (W.get ?_)
 have KA:∀ i j,i<=xs.size->∃ K,K<=i/\(∀ d,d<K->bey O false (ys.getD j 0) xs 0 d=true)/\∀ d,K<=d->d<i->bey O false (ys.getD j 0) xs 0 d=false:=λ i j hi=>kn _ λ c d h1 h2 h3=>T.monoA h1 (by lia) h3
 have KB:∀ i j,j<=ys.size->∃ K,K<=j/\(∀ d,d<K->bey O true (xs.getD i 0) ys 0 d=true)/\∀ d,K<=d->d<j->bey O true (xs.getD i 0) ys 0 d=false:=λ i j hj=>kn _ λ c d h1 h2 h3=>T.monoB h1 (by lia) h3
 have c1:1<xs.size:=by (have:¬ xs.size - 1=0:=(by simpa using c1)); lia
 have c2:1<ys.size:=by (have:¬ ys.size=1:=(by simpa using c2)); lia
 refine W.bind (W.range (D:=λ c b1=>b1.p=b.p/\b1.pd=b.pd/\∃ rs:Array Nat,c.1=some (rs.map (kas_item O.it))/\m9 O xs ys rs) (λ k c b1=>b1.p=b.p/\b1.pd=b.pd/\c.1=none/\∃ os:Array Nat,c.2.2.2.1=os.map (kas_item O.it)/\Hw O xs ys os c.2.1 c.2.2.1/\0<c.2.1/\1<c.2.2.1/\c.2.1+c.2.2.1+1<=k) ⟨rfl,rfl,rfl,_,rfl,L1,by show 0<xs.size - 1; lia,c2,by show xs.size - 1+ys.size+1<=xs.size+ys.size - 0; lia⟩ ?_ ?_ |>.mono λ c b1 hc=>?_)
 rotate_left
 ·rintro ⟨r,i,j,o,g⟩ b1 ⟨f1,f2,_,os,_,L,hi,hj,hk⟩
  dsimp only at hi hj hk
  exact absurd hk (by lia)
 ·obtain ⟨r,i,j,o,g⟩:=c
  obtain ⟨f1,f2,rs,e,hm⟩:=hc
  dsimp only at e ⊢
  subst e
  have:=h rs b1.mg hm
  obtain ⟨p1,d1,m1⟩:=b1
  have f1:p1=b.p:=f1
  have f2:d1=b.pd:=f2
  subst f1 f2
  exact W.pure this
 rintro x k ⟨r,i0,j0,o,g0⟩ b1 ⟨f1,f2,e,os0,eo,L,hi0,hj0,hk⟩
 dsimp only at e eo hi0 hj0 hk L ⊢
 subst e eo
 have tI:=L.ti; have tJ:=L.tj
 refine W.bind (W.range (D:=λ c b1=>b1.p=b.p/\b1.pd=b.pd/\((∃ rs:Array Nat,c.1=some (rs.map (kas_item O.it))/\m9 O xs ys rs)\/(c.1=none/\∃ os:Array Nat,c.2.2.2.1=os.map (kas_item O.it)/\Hw O xs ys os c.2.1 c.2.2.1/\0<c.2.1/\1<c.2.2.1/\c.2.1+c.2.2.1+1<=i0+j0))) (λ k c b1=>b1.p=b.p/\b1.pd=b.pd/\c.1=none/\∃ os:Array Nat,c.2.2.2.1=os.map (kas_item O.it)/\Hw O xs ys os c.2.1 c.2.2.1/\0<c.2.1/\1<c.2.2.1/\c.2.1+c.2.2.1+(xs.size+ys.size)<=i0+j0+k/\c.2.1+c.2.2.1<=i0+j0) ⟨f1,f2,rfl,_,rfl,L,hi0,hj0,by show i0+j0+(xs.size+ys.size)<=i0+j0+(xs.size+ys.size - 0)/\i0+j0<=i0+j0; lia⟩ ?_ ?_ |>.mono λ c b1 hc=>?_)
 ·rintro x k ⟨r,i,j,o,ca,cb⟩ b1 ⟨f1,f2,e,os,eo,L,hi,hj,hk1,hk2⟩
  dsimp only at e eo hi hj hk1 hk2 L ⊢
  subst e eo
  have ti:=L.ti; have tj:=L.tj
  refine W.bind (W.elem (by lia) (W.bind (W.elem (by lia) (W.bind (W.lt (T.ny _ (by lia)) (T.nx _ (by lia)) ?_)))))
  cases e:O.lt (ys.getD (j - 1) 0) (xs.getD (i - 1) 0) with
  | true=>
   have L':=L.stepA T hi (by lia) e
   simp only [if_true]
   refine W.bind (W.elem (by lia) ?_)
   simp only [mpush,mapp,mrev]
   by_cases q:(i - 1 == 0)=true
   ·rw [if_pos q]
    exact W.pure ⟨f1,f2,.inl ⟨_,rfl,L'.done (by simpa using q)⟩⟩
   ·rw [if_neg q]
    have q':¬ i - 1=0:=by simpa using q
    refine W.ite (λ _=>?_) (λ _=>?_)
    ·exact W.pure ⟨f1,f2,.inr ⟨rfl,_,rfl,L',by show 0<i - 1; lia,hj,by show i - 1+j+1<=i0+j0; lia⟩⟩
    ·exact W.pure ⟨f1,f2,rfl,_,rfl,L',by show 0<i - 1; lia,hj,by show i - 1+j+(xs.size+ys.size)<=i0+j0+k/\i - 1+j<=i0+j0; lia⟩
  | false=>
   have L':=L.stepB T hi (by lia) e
   simp only [Dh,if_false]
   refine W.bind (W.elem (by lia) ?_)
   simp only [mpush,mapp,mrev]
   by_cases q:(j - 1 == 1)=true
   ·rw [if_pos q]
    exact W.pure ⟨f1,f2,.inl ⟨_,rfl,L'.first T (by simpa using q) h0⟩⟩
   ·rw [if_neg q]
    have q':¬ j - 1=1:=by simpa using q
    refine W.ite (λ _=>?_) (λ _=>?_)
    ·exact W.pure ⟨f1,f2,.inr ⟨rfl,_,rfl,L',hi,by show 1<j - 1; lia,by show i+(j - 1)+1<=i0+j0; lia⟩⟩
    ·exact W.pure ⟨f1,f2,rfl,_,rfl,L',hi,by show 1<j - 1; lia,by show i+(j - 1)+(xs.size+ys.size)<=i0+j0+k/\i+(j - 1)<=i0+j0; lia⟩
 ·rintro ⟨r,i,j,o,ca,cb⟩ b1 ⟨f1,f2,_,os,_,L,hi,hj,hk1,hk2⟩
  dsimp only at hi hj hk1 hk2
  exact absurd hk1 (by lia)
 obtain ⟨r,i1,j1,o,ca,cb⟩:=c
 obtain ⟨f1,f2,hc⟩:=hc
 dsimp only at hc ⊢
 rcases hc with ⟨rs,e,hm⟩ | ⟨e,os1,eo,L,hi1,hj1,hk1⟩
 ·subst e
  exact W.pure ⟨f1,f2,rs,rfl,hm⟩
 subst e eo
 dsimp only
 refine W.bind (W.rule ?_)
 refine W.bind (W.range (D:=λ c b1=>b1.p=b.p/\b1.pd=b.pd/\((∃ rs:Array Nat,c.1=some (rs.map (kas_item O.it))/\m9 O xs ys rs)\/(c.1=none/\∃ os:Array Nat,c.2.2.2.1=os.map (kas_item O.it)/\Hw O xs ys os c.2.1 c.2.2.1/\0<c.2.1/\1<c.2.2.1/\c.2.1+c.2.2.1<=i1+j1))) (λ k c b1=>b1.p=b.p/\b1.pd=b.pd/\c.1=none/\∃ os:Array Nat,c.2.2.2.1=os.map (kas_item O.it)/\Hw O xs ys os c.2.1 c.2.2.1/\0<c.2.1/\1<c.2.2.1/\c.2.1+c.2.2.1+(xs.size+ys.size)<=i1+j1+k/\c.2.1+c.2.2.1<=i1+j1) ⟨f1,f2,rfl,_,rfl,L,hi1,hj1,by show i1+j1+(xs.size+ys.size)<=i1+j1+(xs.size+ys.size - 0)/\i1+j1<=i1+j1; lia⟩ ?_ ?_ |>.mono λ c b1 hc=>?_)
 ·rintro x k ⟨r,i,j,o,g,ca,cb⟩ b1 ⟨f1,f2,e,os,eo,L,hi,hj,hk1,hk2⟩
  dsimp only at e eo hi hj hk1 hk2 L ⊢
  subst e eo
  have ti:=L.ti; have tj:=L.tj
  obtain ⟨K,hK,hK1,hK2⟩:=KA i (j - 1) ti
  have LK:=L.manyA' T (by lia) hK λ d h1 h2=>by have:=hK2 d h1 h2; simpa [bey] using this
  by_cases hg:g > 1
  ·rw [if_pos hg]
   refine W.bind (W.setMG ?_)
   refine W.bind (W.elem (by lia) (W.bind (W.gal (K:=K) (T.ny _ (by lia)) T.nx (by lia) (by lia) hK hK1 hK2 ?_)))
   dsimp only
   by_cases z:i - K > 0
   ·rw [if_pos z]
    simp only [mapp,mrev]
    by_cases q:(K == 0)=true
    ·rw [if_pos q]
     exact W.pure ⟨f1,f2,.inl ⟨_,rfl,LK.done (by simpa using q)⟩⟩
    rw [if_neg q]
    have q':¬ K=0:=by simpa using q
    have L2:=LK.stepB T (by lia) (by lia) (by have:=hK1 (K - 1) (by lia); simpa [bey] using this)
    have ti2:=L2.ti; have tj2:=L2.tj
    refine W.bind (W.elem (by lia) ?_)
    simp only [mpush,mapp,mrev]
    by_cases q2:(j - 1 == 1)=true
    ·rw [if_pos q2]
     exact W.pure ⟨f1,f2,.inl ⟨_,rfl,L2.first T (by simpa using q2) h0⟩⟩
    rw [if_neg q2]
    have q2':¬ j - 1=1:=by simpa using q2
    obtain ⟨K',hK',hB1,hB2⟩:=KB (K - 1) (j - 1) (by lia)
    have LB:=L2.manyB' T (by lia) hK' λ d h1 h2=>by have:=hB2 d h1 h2; simpa [bey] using this
    refine W.bind (W.elem (by lia) (W.bind (W.gal (K:=K') (T.nx _ (by lia)) T.ny (by lia) (by lia) hK' hB1 hB2 ?_)))
    dsimp only
    by_cases z':j - 1 - K' > 0
    ·rw [if_pos z']
     try simp only [mapp,mrev]
     by_cases q4:(K' == 1)=true
     ·rw [if_pos q4]
      exact W.pure ⟨f1,f2,.inl ⟨_,rfl,LB.first T (by simpa using q4) h0⟩⟩
     rw [if_neg q4]
     have q4':¬ K'=1:=by simpa using q4
     by_cases q5:(K' == 0)=true
     ·rw [if_pos q5]
      exact W.pure ⟨f1,f2,.inl ⟨_,rfl,LB.done2 (by simpa using q5)⟩⟩
     rw [if_neg q5]
     have q5':¬ K'=0:=by simpa using q5
     have L3:=LB.stepA T (by lia) (by lia) (by have:=hB1 (K' - 1) (by lia); simpa [bey] using this)
     refine W.bind (W.elem (by lia) ?_)
     simp only [mpush,mapp,mrev]
     by_cases q3:(K - 1 == 0)=true
     ·rw [if_pos q3]
      exact W.pure ⟨f1,f2,.inl ⟨_,rfl,L3.done (by simpa using q3)⟩⟩
     ·rw [if_neg q3]
      have q3':¬ K - 1=0:=by simpa using q3
      refine W.ite (λ _=>?_) (λ _=>?_)
      ·exact W.pure ⟨f1,f2,.inr ⟨rfl,_,rfl,L3,by show 0<K - 1; lia,by show 1<K'; lia,by show K - 1+(K')<=i1+j1; lia⟩⟩
      ·exact W.pure ⟨f1,f2,rfl,_,rfl,L3,by show 0<K - 1; lia,by show 1<K'; lia,by show K - 1+(K')+(xs.size+ys.size)<=i1+j1+k/\K - 1+(K')<=i1+j1; lia⟩
    ·rw [if_neg z']
     have L3:=L2.stepA T (by lia) (by lia) (by have:=hB1 (j - 1 - 1) (by lia); simpa [bey] using this)
     refine W.bind (W.elem (by lia) ?_)
     simp only [mpush,mapp,mrev]
     by_cases q3:(K - 1 == 0)=true
     ·rw [if_pos q3]
      exact W.pure ⟨f1,f2,.inl ⟨_,rfl,L3.done (by simpa using q3)⟩⟩
     ·rw [if_neg q3]
      have q3':¬ K - 1=0:=by simpa using q3
      refine W.ite (λ _=>?_) (λ _=>?_)
      ·exact W.pure ⟨f1,f2,.inr ⟨rfl,_,rfl,L3,by show 0<K - 1; lia,by show 1<j - 1; lia,by show K - 1+(j - 1)<=i1+j1; lia⟩⟩
      ·exact W.pure ⟨f1,f2,rfl,_,rfl,L3,by show 0<K - 1; lia,by show 1<j - 1; lia,by show K - 1+(j - 1)+(xs.size+ys.size)<=i1+j1+k/\K - 1+(j - 1)<=i1+j1; lia⟩
   ·rw [if_neg z]
    have L2:=L.stepB T (by lia) (by lia) (by have:=hK1 (i - 1) (by lia); simpa [bey] using this)
    have ti2:=L2.ti; have tj2:=L2.tj
    refine W.bind (W.elem (by lia) ?_)
    simp only [mpush,mapp,mrev]
    by_cases q2:(j - 1 == 1)=true
    ·rw [if_pos q2]
     exact W.pure ⟨f1,f2,.inl ⟨_,rfl,L2.first T (by simpa using q2) h0⟩⟩
    rw [if_neg q2]
    have q2':¬ j - 1=1:=by simpa using q2
    obtain ⟨K',hK',hB1,hB2⟩:=KB (i - 1) (j - 1) (by lia)
    have LB:=L2.manyB' T (by lia) hK' λ d h1 h2=>by have:=hB2 d h1 h2; simpa [bey] using this
    refine W.bind (W.elem (by lia) (W.bind (W.gal (K:=K') (T.nx _ (by lia)) T.ny (by lia) (by lia) hK' hB1 hB2 ?_)))
    dsimp only
    by_cases z':j - 1 - K' > 0
    ·rw [if_pos z']
     try simp only [mapp,mrev]
     by_cases q4:(K' == 1)=true
     ·rw [if_pos q4]
      exact W.pure ⟨f1,f2,.inl ⟨_,rfl,LB.first T (by simpa using q4) h0⟩⟩
     rw [if_neg q4]
     have q4':¬ K'=1:=by simpa using q4
     by_cases q5:(K' == 0)=true
     ·rw [if_pos q5]
      exact W.pure ⟨f1,f2,.inl ⟨_,rfl,LB.done2 (by simpa using q5)⟩⟩
     rw [if_neg q5]
     have q5':¬ K'=0:=by simpa using q5
     have L3:=LB.stepA T (by lia) (by lia) (by have:=hB1 (K' - 1) (by lia); simpa [bey] using this)
     refine W.bind (W.elem (by lia) ?_)
     simp only [mpush,mapp,mrev]
     by_cases q3:(i - 1 == 0)=true
     ·rw [if_pos q3]
      exact W.pure ⟨f1,f2,.inl ⟨_,rfl,L3.done (by simpa using q3)⟩⟩
     ·rw [if_neg q3]
      have q3':¬ i - 1=0:=by simpa using q3
      refine W.ite (λ _=>?_) (λ _=>?_)
      ·exact W.pure ⟨f1,f2,.inr ⟨rfl,_,rfl,L3,by show 0<i - 1; lia,by show 1<K'; lia,by show i - 1+(K')<=i1+j1; lia⟩⟩
      ·exact W.pure ⟨f1,f2,rfl,_,rfl,L3,by show 0<i - 1; lia,by show 1<K'; lia,by show i - 1+(K')+(xs.size+ys.size)<=i1+j1+k/\i - 1+(K')<=i1+j1; lia⟩
    ·rw [if_neg z']
     have L3:=L2.stepA T (by lia) (by lia) (by have:=hB1 (j - 1 - 1) (by lia); simpa [bey] using this)
     refine W.bind (W.elem (by lia) ?_)
     simp only [mpush,mapp,mrev]
     by_cases q3:(i - 1 == 0)=true
     ·rw [if_pos q3]
      exact W.pure ⟨f1,f2,.inl ⟨_,rfl,L3.done (by simpa using q3)⟩⟩
     ·rw [if_neg q3]
      have q3':¬ i - 1=0:=by simpa using q3
      refine W.ite (λ _=>?_) (λ _=>?_)
      ·exact W.pure ⟨f1,f2,.inr ⟨rfl,_,rfl,L3,by show 0<i - 1; lia,by show 1<j - 1; lia,by show i - 1+(j - 1)<=i1+j1; lia⟩⟩
      ·exact W.pure ⟨f1,f2,rfl,_,rfl,L3,by show 0<i - 1; lia,by show 1<j - 1; lia,by show i - 1+(j - 1)+(xs.size+ys.size)<=i1+j1+k/\i - 1+(j - 1)<=i1+j1; lia⟩
  ·rw [if_neg hg]
   refine W.bind (W.setMG ?_)
   refine W.bind (W.elem (by lia) (W.bind (W.gal (K:=K) (T.ny _ (by lia)) T.nx (by lia) (by lia) hK hK1 hK2 ?_)))
   dsimp only
   by_cases z:i - K > 0
   ·rw [if_pos z]
    simp only [mapp,mrev]
    by_cases q:(K == 0)=true
    ·rw [if_pos q]
     exact W.pure ⟨f1,f2,.inl ⟨_,rfl,LK.done (by simpa using q)⟩⟩
    rw [if_neg q]
    have q':¬ K=0:=by simpa using q
    have L2:=LK.stepB T (by lia) (by lia) (by have:=hK1 (K - 1) (by lia); simpa [bey] using this)
    have ti2:=L2.ti; have tj2:=L2.tj
    refine W.bind (W.elem (by lia) ?_)
    simp only [mpush,mapp,mrev]
    by_cases q2:(j - 1 == 1)=true
    ·rw [if_pos q2]
     exact W.pure ⟨f1,f2,.inl ⟨_,rfl,L2.first T (by simpa using q2) h0⟩⟩
    rw [if_neg q2]
    have q2':¬ j - 1=1:=by simpa using q2
    obtain ⟨K',hK',hB1,hB2⟩:=KB (K - 1) (j - 1) (by lia)
    have LB:=L2.manyB' T (by lia) hK' λ d h1 h2=>by have:=hB2 d h1 h2; simpa [bey] using this
    refine W.bind (W.elem (by lia) (W.bind (W.gal (K:=K') (T.nx _ (by lia)) T.ny (by lia) (by lia) hK' hB1 hB2 ?_)))
    dsimp only
    by_cases z':j - 1 - K' > 0
    ·rw [if_pos z']
     try simp only [mapp,mrev]
     by_cases q4:(K' == 1)=true
     ·rw [if_pos q4]
      exact W.pure ⟨f1,f2,.inl ⟨_,rfl,LB.first T (by simpa using q4) h0⟩⟩
     rw [if_neg q4]
     have q4':¬ K'=1:=by simpa using q4
     by_cases q5:(K' == 0)=true
     ·rw [if_pos q5]
      exact W.pure ⟨f1,f2,.inl ⟨_,rfl,LB.done2 (by simpa using q5)⟩⟩
     rw [if_neg q5]
     have q5':¬ K'=0:=by simpa using q5
     have L3:=LB.stepA T (by lia) (by lia) (by have:=hB1 (K' - 1) (by lia); simpa [bey] using this)
     refine W.bind (W.elem (by lia) ?_)
     simp only [mpush,mapp,mrev]
     by_cases q3:(K - 1 == 0)=true
     ·rw [if_pos q3]
      exact W.pure ⟨f1,f2,.inl ⟨_,rfl,L3.done (by simpa using q3)⟩⟩
     ·rw [if_neg q3]
      have q3':¬ K - 1=0:=by simpa using q3
      refine W.ite (λ _=>?_) (λ _=>?_)
      ·exact W.pure ⟨f1,f2,.inr ⟨rfl,_,rfl,L3,by show 0<K - 1; lia,by show 1<K'; lia,by show K - 1+(K')<=i1+j1; lia⟩⟩
      ·exact W.pure ⟨f1,f2,rfl,_,rfl,L3,by show 0<K - 1; lia,by show 1<K'; lia,by show K - 1+(K')+(xs.size+ys.size)<=i1+j1+k/\K - 1+(K')<=i1+j1; lia⟩
    ·rw [if_neg z']
     have L3:=L2.stepA T (by lia) (by lia) (by have:=hB1 (j - 1 - 1) (by lia); simpa [bey] using this)
     refine W.bind (W.elem (by lia) ?_)
     simp only [mpush,mapp,mrev]
     by_cases q3:(K - 1 == 0)=true
     ·rw [if_pos q3]
      exact W.pure ⟨f1,f2,.inl ⟨_,rfl,L3.done (by simpa using q3)⟩⟩
     ·rw [if_neg q3]
      have q3':¬ K - 1=0:=by simpa using q3
      refine W.ite (λ _=>?_) (λ _=>?_)
      ·exact W.pure ⟨f1,f2,.inr ⟨rfl,_,rfl,L3,by show 0<K - 1; lia,by show 1<j - 1; lia,by show K - 1+(j - 1)<=i1+j1; lia⟩⟩
      ·exact W.pure ⟨f1,f2,rfl,_,rfl,L3,by show 0<K - 1; lia,by show 1<j - 1; lia,by show K - 1+(j - 1)+(xs.size+ys.size)<=i1+j1+k/\K - 1+(j - 1)<=i1+j1; lia⟩
   ·rw [if_neg z]
    have L2:=L.stepB T (by lia) (by lia) (by have:=hK1 (i - 1) (by lia); simpa [bey] using this)
    have ti2:=L2.ti; have tj2:=L2.tj
    refine W.bind (W.elem (by lia) ?_)
    simp only [mpush,mapp,mrev]
    by_cases q2:(j - 1 == 1)=true
    ·rw [if_pos q2]
     exact W.pure ⟨f1,f2,.inl ⟨_,rfl,L2.first T (by simpa using q2) h0⟩⟩
    rw [if_neg q2]
    have q2':¬ j - 1=1:=by simpa using q2
    obtain ⟨K',hK',hB1,hB2⟩:=KB (i - 1) (j - 1) (by lia)
    have LB:=L2.manyB' T (by lia) hK' λ d h1 h2=>by have:=hB2 d h1 h2; simpa [bey] using this
    refine W.bind (W.elem (by lia) (W.bind (W.gal (K:=K') (T.nx _ (by lia)) T.ny (by lia) (by lia) hK' hB1 hB2 ?_)))
    dsimp only
    by_cases z':j - 1 - K' > 0
    ·rw [if_pos z']
     try simp only [mapp,mrev]
     by_cases q4:(K' == 1)=true
     ·rw [if_pos q4]
      exact W.pure ⟨f1,f2,.inl ⟨_,rfl,LB.first T (by simpa using q4) h0⟩⟩
     rw [if_neg q4]
     have q4':¬ K'=1:=by simpa using q4
     by_cases q5:(K' == 0)=true
     ·rw [if_pos q5]
      exact W.pure ⟨f1,f2,.inl ⟨_,rfl,LB.done2 (by simpa using q5)⟩⟩
     rw [if_neg q5]
     have q5':¬ K'=0:=by simpa using q5
     have L3:=LB.stepA T (by lia) (by lia) (by have:=hB1 (K' - 1) (by lia); simpa [bey] using this)
     refine W.bind (W.elem (by lia) ?_)
     simp only [mpush,mapp,mrev]
     by_cases q3:(i - 1 == 0)=true
     ·rw [if_pos q3]
      exact W.pure ⟨f1,f2,.inl ⟨_,rfl,L3.done (by simpa using q3)⟩⟩
     ·rw [if_neg q3]
      have q3':¬ i - 1=0:=by simpa using q3
      refine W.ite (λ _=>?_) (λ _=>?_)
      ·exact W.pure ⟨f1,f2,.inr ⟨rfl,_,rfl,L3,by show 0<i - 1; lia,by show 1<K'; lia,by show i - 1+(K')<=i1+j1; lia⟩⟩
      ·exact W.pure ⟨f1,f2,rfl,_,rfl,L3,by show 0<i - 1; lia,by show 1<K'; lia,by show i - 1+(K')+(xs.size+ys.size)<=i1+j1+k/\i - 1+(K')<=i1+j1; lia⟩
    ·rw [if_neg z']
     have L3:=L2.stepA T (by lia) (by lia) (by have:=hB1 (j - 1 - 1) (by lia); simpa [bey] using this)
     refine W.bind (W.elem (by lia) ?_)
     simp only [mpush,mapp,mrev]
     by_cases q3:(i - 1 == 0)=true
     ·rw [if_pos q3]
      exact W.pure ⟨f1,f2,.inl ⟨_,rfl,L3.done (by simpa using q3)⟩⟩
     ·rw [if_neg q3]
      have q3':¬ i - 1=0:=by simpa using q3
      refine W.ite (λ _=>?_) (λ _=>?_)
      ·exact W.pure ⟨f1,f2,.inr ⟨rfl,_,rfl,L3,by show 0<i - 1; lia,by show 1<j - 1; lia,by show i - 1+(j - 1)<=i1+j1; lia⟩⟩
      ·exact W.pure ⟨f1,f2,rfl,_,rfl,L3,by show 0<i - 1; lia,by show 1<j - 1; lia,by show i - 1+(j - 1)+(xs.size+ys.size)<=i1+j1+k/\i - 1+(j - 1)<=i1+j1; lia⟩
 ·rintro ⟨r,i,j,o,g,ca,cb⟩ b1 ⟨f1,f2,_,os,_,L,hi,hj,hk1,hk2⟩
  dsimp only at hi hj hk1 hk2
  exact absurd hk1 (by lia)
 obtain ⟨r,i2,j2,o,g2,ca,cb⟩:=c
 obtain ⟨f1,f2,hc⟩:=hc
 dsimp only at hc ⊢
 rcases hc with ⟨rs,e,hm⟩ | ⟨e,os2,eo,L,hi2,hj2,hk2⟩
 ·subst e
  exact W.pure ⟨f1,f2,rs,rfl,hm⟩
 subst e eo
 dsimp only
 exact W.bind (W.setMG (W.pure ⟨f1,f2,rfl,_,rfl,L,hi2,hj2,by show i2+j2+1<=k; lia⟩))
end
theorem zX (n:Nat):mergeAt' n=(do
 let st <-get
 let (some (u,nu,pw),some (v,nv,_)):=((pendingOf st)[n]?,(pendingOf st)[n+1]?) | unsupported "internal:list.sort.pending"
 set (setPending st (((pendingOf st).setIfInBounds n (u,nu+nv,pw)).eraseIdxIfInBounds (n+1)))
 let some k <-gal false (<-elem' (arrOf st) v) (arrOf st) u nu 0 | return false
 let (u,nu):=(u+k,nu - k)
 if nu == 0 then return true
 let some nv <-gal true (<-elem' (arrOf st) (u+nu - 1)) (arrOf st) v nv (nv - 1) | return false
 if nv == 0 then return true
 let X:=(arrOf st).extract u v
 let Y:=(arrOf st).extract v (v+nv)
 let R <-if nu<=nv then mLo X Y else mHi X Y
 modify λ st=>setArr st (R.toList.zipIdx.foldl (λ z (q,j)=>z.setIfInBounds (u+j) q) (arrOf st))
 return (failedOf (<-get)).isNone):=rfl
theorem oh {α:Type}:∀ (l:List α) (k s:Nat) (z:Array α),s+k+l.length<=z.size->
  ((l.zipIdx k).foldl (λ z x=>z.setIfInBounds (s+x.2) x.1) z).toList=z.toList.take (s+k)++l++z.toList.drop (s+k+l.length)
 | [],k,s,z,h=>by simp
 | x::l,k,s,z,h=>by
  rw [List.zipIdx_cons,Kw]
  have ih:=oh l (k+1) s (z.setIfInBounds (s+k) x) (by rw [Array.size_setIfInBounds]; simp at h; lia)
  rw [ih]
  have hz:s+k<z.toList.length:=by simp at h ⊢; lia
  rw [Array.toList_setIfInBounds]
  have e1:(z.toList.set (s+k) x).take (s+(k+1))=z.toList.take (s+k)++[x]:=by
   rw [show s+(k+1)=s+k+1 by lia,Fc (by simpa using hz)]
   rw [List.getElem_set_self,List.take_set_of_le (C8 _)]
  have e2:(z.toList.set (s+k) x).drop (s+(k+1)+l.length)=z.toList.drop (s+(k+1)+l.length):=by
   rw [List.drop_set,if_pos (by lia)]
  rw [e1,e2]
  simp only [DH,List.cons_append,Ge,DD]
  rw [show s+(k+1)+l.length=s+k+(l.length+1) by lia]
section
variable {O:Orc} {b:Ab}
theorem W.set {st:SortSt} {Q:PUnit->Ab->Prop} (b':Ab) (e:st=b'.st O) (h:Q ⟨⟩ b'):W O (MH st:SM PUnit) Q b:=λ s hs=>by
 unfold kasC
 show wpAny _ _ ((StateT.set st:SM PUnit).run (b.st O)) _ _ s
 exact wpAny_pure ⟨hs,b',e,h⟩
theorem gd {p:Array Nat} {pre l:List Nat} (h:p.toList=pre++l) (d:Nat):p.getD (pre.length+d) 0=l.getD d 0:=by
 have:p.getD (pre.length+d) 0=p.toList.getD (pre.length+d) 0:=by
  by_cases q:pre.length+d<p.size
  ·simp [DI,q]
  ·have q':¬ pre.length+d<p.toList.length:=by simpa using q
   simp [DI,q,KW,Ea (Kl q')]
 rw [this,h]
 simp [KW,Dy]
theorem gl {l:List Nat} {d:Nat} (h:d<l.length):l.getD d 0=l[d]:=by simp [KW,h]
structure Nb (O:Orc) (p:Array Nat) (pre R1 R2 suf:List Nat):Prop where
 H:Lt O.lt
 e:p.toList=pre++(R1++(R2++suf))
 nn:∀ k,k<p.size->p.getD k 0<O.N
 s1:R1.Pairwise (Ah O.lt)
 s2:R2.Pairwise (Ah O.lt)
 xy:∀ x∈R1,∀ y∈R2,x<y
 l1:0<R1.length
 l2:0<R2.length
theorem W.mAt {p:Array Nat} {pd:Array (Nat×Nat×Nat)} {mg pw pw2:Nat} {pre R1 R2 suf:List Nat} {Q:Bool->Ab->Prop} (T:Nb O p pre R1 R2 suf) (d1:pd[n]? = some (pre.length,R1.length,pw)) (d2:pd[n+1]? = some (pre.length+R1.length,R2.length,pw2))
  (h:∀ (M:List Nat) (p':Array Nat) mg',M.Perm (R1++R2)->M.Pairwise (Ah O.lt)->p'.toList=pre++(M++suf)->Q true ⟨p',(pd.setIfInBounds n (pre.length,R1.length+R2.length,pw)).eraseIdxIfInBounds (n+1),mg'⟩):W O (mergeAt' n) Q ⟨p,pd,mg⟩:=by
 have l1:=T.l1
 have l2:=T.l2
 have hz:p.size=pre.length+(R1.length+(R2.length+suf.length)):=by rw [<-DT,T.e]; simp
 have g1:∀ d,d<R1.length->p.getD (pre.length+d) 0=R1.getD d 0:=λ d hd=>by
  rw [gd T.e,gl (by simp; lia),gl hd,GH hd]
 have e2:p.toList=(pre++R1)++(R2++suf):=by rw [T.e]; simp
 have g2:∀ d,d<R2.length->p.getD (pre.length+R1.length+d) 0=R2.getD d 0:=λ d hd=>by
  have:=gd e2 d
  rw [Dg] at this
  rw [this,gl (by simp; lia),gl hd,GH hd]
 have m1:∀ d,d<R1.length->R1.getD d 0∈R1:=λ d hd=>by rw [gl hd]; exact Dl hd
 have m2:∀ d,d<R2.length->R2.getD d 0∈R2:=λ d hd=>by rw [gl hd]; exact Dl hd
 have a1:∀ c d,c<d->d<R1.length->Ah O.lt (R1.getD c 0) (R1.getD d 0):=λ c d hc hd=>by
  rw [gl hd,gl (by lia)]; exact DK.mp T.s1 c d (by lia) hd hc
 have a2:∀ c d,c<d->d<R2.length->Ah O.lt (R2.getD c 0) (R2.getD d 0):=λ c d hc hd=>by
  rw [gl hd,gl (by lia)]; exact DK.mp T.s2 c d (by lia) hd hc
 rw [zX]
 refine W.bind (W.get ?_)
 have hp:pendingOf (Ab.st O ⟨p,pd,mg⟩)=pd:=rfl
 have ha:arrOf (Ab.st O ⟨p,pd,mg⟩)=p.map (kas_item O.it):=rfl
 simp only [hp,ha,d1,d2]
 refine W.bind (W.set ⟨p,(pd.setIfInBounds n (pre.length,R1.length+R2.length,pw)).eraseIdxIfInBounds (n+1),mg⟩ rfl ?_)
 generalize (pd.setIfInBounds n (pre.length,R1.length+R2.length,pw)).eraseIdxIfInBounds (n+1)=pd' at h ⊢
 -- the first of the second run,looked for in the first
 obtain ⟨K,hK,k1,k2⟩:=kn (P:=λ d=>bey O false (p.getD (pre.length+R1.length) 0) p pre.length d) R1.length (λ c d h1 h2 h3=>by
  simp only [bey,Dh,if_false,Ij] at h3 ⊢
  rcases Ff h1 with rfl | h1
  ·exact h3
  ·rw [g1 d h2] at h3; rw [g1 c (by lia)]
   exact T.H.tr _ _ _ h3 (a1 c d h1 h2).1)
 have y0:p.getD (pre.length+R1.length) 0=R2.getD 0 0:=g2 0 l2
 have k1':∀ d,d<K->O.lt (R2.getD 0 0) (R1.getD d 0)=false:=λ d hd=>by
  have:=k1 d hd
  simp only [bey,Dh,if_false,Ij] at this
  rwa [y0,g1 d (by lia)] at this
 have k2':∀ d,K<=d->d<R1.length->O.lt (R2.getD 0 0) (R1.getD d 0)=true:=λ d h1 h2=>by
  have:=k2 d h1 h2
  simp only [bey,Dh,if_false,Bool.not_eq_false'] at this
  rwa [y0,g1 d (by lia)] at this
 refine W.bind (W.elem (by lia) (W.bind (W.gal (K:=K) (T.nn _ (by lia)) T.nn (by lia) l1 hK k1 k2 ?_)))
 -- what stays ahead stands ahead of all of the second run
 have F1:∀ a∈R1.take K,∀ y∈R2,Ah O.lt a y:=λ a ha y hy=>by
  obtain ⟨d,hd,rfl⟩:=Eh ha
  have hd':d<K:=by rw [Df] at hd; lia
  have hd1:d<R1.length:=by lia
  have e:(R1.take K)[d]=R1.getD d 0:=by rw [gl hd1]; simp
  rw [e]
  have b0:Ah O.lt (R1.getD d 0) (R2.getD 0 0):=⟨k1' d hd',λ _=>T.xy _ (m1 d hd1) _ (m2 0 l2)⟩
  obtain ⟨c,hc,rfl⟩:=Eh hy
  rw [<-gl hc]
  rcases Fg c with rfl | hc0
  ·exact b0
  ·exact b0.trans T.H (a2 0 c hc0 hc)
 dsimp only
 by_cases q:(R1.length - K == 0)=true
 ·rw [if_pos q]
  have q':R1.length - K=0:=by simpa using q
  have eK:R1.take K=R1:=Da (by lia)
  rw [eK] at F1
  exact W.pure (h (R1++R2) p mg (D0 _) (Dq.mpr ⟨T.s1,T.s2,λ a ha c hc=>F1 a ha c hc⟩) (by rw [T.e]; simp))
 rw [if_neg q]
 have q':¬ R1.length - K=0:=by simpa using q
 have ex:pre.length+K+(R1.length - K) - 1=pre.length+(R1.length - 1):=by lia
 rw [ex]
 obtain ⟨K',hK',j1,j2⟩:=kn (P:=λ d=>bey O true (p.getD (pre.length+(R1.length - 1)) 0) p (pre.length+R1.length) d) R2.length (λ c d h1 h2 h3=>by
  simp only [bey,if_true] at h3 ⊢
  rcases Ff h1 with rfl | h1
  ·exact h3
  ·rw [g2 d h2] at h3; rw [g2 c (by lia)]
   exact lc T.H h3 (a2 c d h1 h2).1)
 have x9:=g1 (R1.length - 1) (by lia)
 have j1':∀ d,d<K'->O.lt (R2.getD d 0) (R1.getD (R1.length - 1) 0)=true:=λ d hd=>by
  have:=j1 d hd
  simp only [bey,if_true] at this
  rwa [x9,g2 d (by lia)] at this
 have j2':∀ d,K'<=d->d<R2.length->O.lt (R2.getD d 0) (R1.getD (R1.length - 1) 0)=false:=λ d h1 h2=>by
  have:=j2 d h1 h2
  simp only [bey,if_true] at this
  rwa [x9,g2 d (by lia)] at this
 refine W.bind (W.elem (by lia) (W.bind (W.gal (K:=K') (T.nn _ (by lia)) T.nn (by lia) (by lia) hK' j1 j2 ?_)))
 dsimp only
 have kp:0<K':=by
  rcases Fg K' with z | z
  ·have:=j2' 0 (by lia) l2
   rw [k2' _ (by lia) (by lia)] at this; cases this
  ·exact z
 rw [if_neg (by simp; lia)]
 have F2:∀ x∈R1,∀ y∈R2.drop K',Ah O.lt x y:=λ x hx y hy=>by
  obtain ⟨d,hd,rfl⟩:=Eh hy
  have hd':K'+d<R2.length:=by rw [DU] at hd; lia
  have e:(R2.drop K')[d]=R2.getD (K'+d) 0:=by rw [gl hd']; simp
  rw [e]
  have b0:Ah O.lt (R1.getD (R1.length - 1) 0) (R2.getD (K'+d) 0):=⟨j2' _ (by lia) hd',λ _=>T.xy _ (m1 _ (by lia)) _ (m2 _ hd')⟩
  obtain ⟨c,hc,rfl⟩:=Eh hx
  rw [<-gl hc]
  rcases Ff (show c<=R1.length - 1 by lia) with rfl | hc0
  ·exact b0
  ·exact (a1 c _ hc0 (by lia)).trans T.H b0
 have mext:∀ (zs:Array Nat) (i j:Nat),(zs.map (kas_item O.it)).extract i j=(zs.extract i j).map (kas_item O.it):=λ zs i j=>by rw [Ik]
 simp only [mext]
 have ex1:(p.extract (pre.length+K) (pre.length+R1.length)).toList=R1.drop K:=by
  rw [E5,Ez,T.e,show pre.length+R1.length - (pre.length+K)=R1.length - K by lia,Kr,IZ (by lia),Ge,show pre.length+K - pre.length=K by lia,G9 hK,Gk (by simp)]
  exact Da (by simp)
 have ex2:(p.extract (pre.length+R1.length) (pre.length+R1.length+K')).toList=R2.take K':=by
  rw [E5,Ez,e2,show pre.length+R1.length+K' - (pre.length+R1.length)=K' by lia,Kr,IZ (by simp),Ge,Dg,FT,DZ,Gk hK']
 have z1:(p.extract (pre.length+K) (pre.length+R1.length)).size=R1.length - K:=by rw [<-DT,ex1,DU]
 have z2:(p.extract (pre.length+R1.length) (pre.length+R1.length+K')).size=K':=by rw [<-DT,ex2,Df]; lia
 generalize p.extract (pre.length+K) (pre.length+R1.length)=xs at ex1 z1 ⊢
 generalize p.extract (pre.length+R1.length) (pre.length+R1.length+K')=ys at ex2 z2 ⊢
 have gx:∀ d,d<xs.size->xs.getD d 0=R1.getD (K+d) 0:=λ d hd=>by
  have:=gd (p:=xs) (pre:=[]) (l:=R1.drop K) (by simpa using ex1) d
  simp only [E6,EG] at this
  rw [this,gl (by rw [DU]; lia),gl (by lia),Gp]
 have gy:∀ d,d<ys.size->ys.getD d 0=R2.getD d 0:=λ d hd=>by
  have:=gd (p:=ys) (pre:=[]) (l:=R2.take K') (by simpa using ex2) d
  simp only [E6,EG] at this
  rw [this,gl (by rw [Df]; lia),gl (by lia),Gq]
 have TT:Two O xs ys:=by
  refine ⟨T.H,λ d hd=>?_,λ d hd=>?_,?_,?_,λ x hx y hy=>?_,by lia,by lia⟩
  ·rw [gx d hd,<-g1 (K+d) (by lia)]; exact T.nn _ (by lia)
  ·rw [gy d hd,<-g2 d (by lia)]; exact T.nn _ (by lia)
  ·rw [ex1]; exact T.s1.sublist (GN _ _)
  ·rw [ex2]; exact T.s2.sublist (FC _ _)
  ·rw [ex1] at hx; rw [ex2] at hy
   exact T.xy x (DO hx) y (DL hy)
 have h0:O.lt (ys.getD 0 0) (xs.getD 0 0)=true:=by
  rw [gx 0 (by lia),gy 0 (by lia)]; exact k2' _ (by lia) (by lia)
 have hl:∀ y∈ys.toList,O.lt y (xs.getD (xs.size - 1) 0)=true:=λ y hy=>by
  rw [gx _ (by lia),show K+(xs.size - 1)=R1.length - 1 by lia]
  rw [ex2] at hy
  obtain ⟨d,hd,rfl⟩:=Eh hy
  rw [Df] at hd
  have e:(R2.take K')[d]=R2.getD d 0:=by rw [gl (by lia)]; simp
  rw [e]; exact j1' d (by lia)
 have fin:∀ (rs:Array Nat) (mg':Nat),m9 O xs ys rs->W O (do
   _root_.modify λ st=>setArr st ((rs.map (kas_item O.it)).toList.zipIdx.foldl (λ z x=>z.setIfInBounds (pre.length+K+x.2) x.1) (arrOf st))
   let st <-KL
   Ms (failedOf st).isNone) Q ⟨p,pd',mg'⟩:=by
  intro rs mg' ⟨hm,hs⟩
  rw [ex1,ex2] at hm
  have hrl:rs.toList.length=R1.length - K+K':=by rw [hm.length_eq,Dg,DU,Df]; lia
  have hfs:=oh (rs.map (kas_item O.it)).toList 0 (pre.length+K) (p.map (kas_item O.it)) (by rw [GV,C6,hrl,Hi]; lia)
  have el:(((rs.map (kas_item O.it)).toList.zipIdx.foldl (λ z x=>z.setIfInBounds (pre.length+K+x.2) x.1) (p.map (kas_item O.it))))=(DA (pre++((R1.take K++rs.toList++R2.drop K')++suf))).map (kas_item O.it):=by
   apply E2.mp
   rw [hfs]
   rw [GV,GV,GV,C6,hrl,<-Fn,<-Fo,<-Dr,<-Dr]
   congr 1
   have t1:p.toList.take (pre.length+K+0)=pre++R1.take K:=by
    rw [T.e,FS,List.take_append,Da (by lia),show pre.length+K - pre.length=K by lia,Gk hK]
   have t2:p.toList.drop (pre.length+K+0+(R1.length - K+K'))=R2.drop K'++suf:=by
    rw [e2,show pre.length+K+0+(R1.length - K+K')=(pre++R1).length+K' by rw [Dg]; lia,List.drop_length_add_append,G9 hK']
   rw [t1,t2]
   simp
  refine W.bind (W.modify ⟨DA (pre++((R1.take K++rs.toList++R2.drop K')++suf)),pd',mg'⟩ ?_ ?_)
  ·show E4 O.κ _ pd' mg' none=E4 O.κ _ pd' mg' none
   have:arrOf (Ab.st O ⟨p,pd',mg'⟩)=p.map (kas_item O.it):=rfl
   rw [this,el]
  refine W.bind (W.get (W.pure ?_))
  refine h (R1.take K++rs.toList++R2.drop K') _ mg' ?_ ?_ rfl
  ·have:(R1++R2)=R1.take K++(R1.drop K++R2.take K')++R2.drop K':=by
    rw [<-DH,DP,DH,DP]
   rw [this]
   exact (hm.append_left _).append_right _
  ·have mem:∀ r∈rs.toList,r∈R1.drop K\/r∈R2.take K':=λ r hr=>DG.mp (hm.mem_iff.mp hr)
   have p1:(R1.take K++R1.drop K).Pairwise (Ah O.lt):=by rw [DP]; exact T.s1
   have p2:(R2.take K'++R2.drop K').Pairwise (Ah O.lt):=by rw [DP]; exact T.s2
   refine Dq.mpr ⟨Dq.mpr ⟨T.s1.sublist (FC _ _),hs,λ a ha r hr=>?_⟩,T.s2.sublist (GN _ _),λ a ha y hy=>?_⟩
   ·rcases mem r hr with z | z
    ·exact (Dq.mp p1).2.2 a ha r z
    ·exact F1 a ha r (DL z)
   ·rcases DG.mp ha with z | z
    ·exact F1 a z y (DO hy)
    ·rcases mem a z with z | z
     ·exact F2 a (DO z) y hy
     ·exact (Dq.mp p2).2.2 a z y hy
 by_cases c:R1.length - K<=K'
 ·rw [if_pos c]
  exact W.bind (W.mLo TT h0 hl λ rs mg' hm=>fin rs mg' hm)
 ·rw [if_neg c]
  exact W.bind (W.mHi TT h0 hl λ rs mg' hm=>fin rs mg' hm)
end
noncomputable def ev (lt:Nat->Nat->Bool) {α:Type}:KasT α->α
 | .ret a=>a
 | .ask i j k=>ev lt (k (lt i j))
theorem eW (lt:Nat->Nat->Bool) {α β:Type} (f:α->KasT β):∀ t:KasT α,ev lt (t.bind f)=ev lt (f (ev lt t))
 | .ret _=>rfl
 | .ask i j k=>eW lt f (k (lt i j))
theorem Sat.ev {N:Nat} {lt:Nat->Nat->Bool} {α:Type} {R:α->Prop}:∀ t:KasT α,Sat N lt t R->R (L2.ev lt t)
 | .ret _,h=>h
 | .ask i j k,h=>Sat.ev (k (lt i j)) h.2.2
noncomputable def sh (lt:Nat->Nat->Bool) (lo:Nat):Nat->Nat->Bool:=λ i j=>lt (i+lo) (j+lo)
theorem Lt.sh {lt:Nat->Nat->Bool} (H:Lt lt) (lo:Nat):Lt (sh lt lo):=⟨λ i j h=>H.asym _ _ h,λ i j k h h'=>H.tr _ _ _ h h'⟩
section
variable {O:Orc} {b:Ab} {lo n nrem:Nat} {pre:List Nat} {pd:Array (Nat×Nat×Nat)} {mg:Nat} {P:Array Nat}
theorem W.rangeV {γ:Type} {x y:Nat} {c:γ} {f:Nat->γ->SM (ForInStep γ)} {D:γ->Ab->Prop} (J:Nat->γ->Ab->Prop) (hxy:x<=y) (h0:J x c b)
  (hs:∀ k c b,x<=k->k<y->J k c b->W O (f k c) (λ r b'=>match r with | .done c'=>D c' b' | .yield c'=>J (k+1) c' b') b) (hd:∀ c b,J y c b->D c b):W O (IY [x:y] c f) D b:=λ s hi=>by
 refine kasC_range ?_
 have go:∀ (m k:Nat) (c:γ) (b:Ab),x<=k->k+m=y->J k c b->W O (IY (DS k m) c f) D b:=by
  intro m
  induction m with
  | zero=>
   intro k c b _ e h s hi
   have:k=y:=by lia
   subst this
   exact kasC_nil ⟨hi,b,rfl,hd c b h⟩
  | succ m ih=>
   intro k c b hk e h s hi
   rw [List.range'_succ]
   refine kasC_cons (wpAny_mono (hs k c b hk (by lia) h s hi) (λ r s' ⟨i,b',e',q⟩=>?_) λ _ _ z=>z)
   obtain ⟨r,st⟩:=r
   have e':st=b'.st O:=e'
   subst e'
   cases r with
   | done c'=>exact ⟨i,b',rfl,q⟩
   | yield c'=>exact ih (k+1) c' b' (by lia) (by lia) q s' i
 exact go (y - x) x c b (C8 _) (by lia) h0 s hi
noncomputable def abP (lo:Nat) (pre:List Nat) (pd:Array (Nat×Nat×Nat)) (mg:Nat) (P:Array Nat):Ab:=⟨DA (pre++P.toList.map (· + lo)),pd,mg⟩
structure Fm (O:Orc) (lo nrem:Nat) (pre:List Nat) (P:Array Nat):Prop where
 pl:pre.length=lo
 pn:∀ x∈pre,x<O.N
 top:lo+nrem<=O.N
 perm:P.Perm (DA (C9 nrem))
theorem Fm.get (F:Fm O lo nrem pre P) (hi:i<nrem):(abP lo pre pd mg P).p.getD (lo+i) 0=P.getD i 0+lo:=by
 have hz:=(gC F.perm).sz
 have e:(abP lo pre pd mg P).p.toList=pre++P.toList.map (· + lo):=rfl
 have:=gd e i
 rw [F.pl] at this
 rw [this,gl (by simp; lia)]
 simp [DI,hz,hi]
theorem Fm.size (F:Fm O lo nrem pre P):(abP lo pre pd mg P).p.size=lo+nrem:=by
 have hz:=(gC F.perm).sz
 show (DA (pre++P.toList.map (· + lo))).size=_
 simp [F.pl,hz]
theorem Fm.all (F:Fm O lo nrem pre P):∀ k,k<(abP lo pre pd mg P).p.size->(abP lo pre pd mg P).p.getD k 0<O.N:=λ k hk=>by
 rw [F.size] at hk
 rcases El k lo with h | h
 ·have e:(abP lo pre pd mg P).p.getD k 0=pre.getD k 0:=by
   show (DA (pre++P.toList.map (· + lo))).getD k 0=_
   have hk':k<pre.length:=by rw [F.pl]; exact h
   have hz:=(gC F.perm).sz
   have:k<(DA (pre++P.toList.map (· + lo))).size:=by simp [F.pl,hz]; lia
   rw [gl hk']
   simp [DI,F.pl,hz,hk,GH hk']
  rw [e,gl (by rw [F.pl]; exact h)]
  exact F.pn _ (Dl _)
 ·obtain ⟨d,rfl⟩:∃ d,k=lo+d:=⟨k - lo,by lia⟩
  rw [F.get (by lia)]
  have:=(gC F.perm).bd d (by lia)
  have:=F.top
  lia
theorem Fm.of (F:Fm O lo nrem pre P) {P':Array Nat} (h:P'.Perm (DA (C9 nrem))):Fm O lo nrem pre P':=⟨F.pl,F.pn,F.top,h⟩
theorem W.ltF {Q:Option Bool->Ab->Prop} (F:Fm O lo nrem pre P) (hi:i<nrem) (hj:j<nrem) (h:Q (some (sh O.lt lo (P.getD i 0) (P.getD j 0))) (abP lo pre pd mg P)):W O (ltAt' (lo+i) (lo+j)) Q (abP lo pre pd mg P):=by
 refine W.ltAt (by rw [F.size]; lia) (by rw [F.size]; lia) F.all ?_
 rw [F.get hi,F.get hj]; exact h
theorem xF (xs:Array Nat) (k:Nat) (h:k<xs.size):xs[k]? = some (xs.getD k 0):=by simp [DI,h]
theorem W.revF {Q:Unit->Ab->Prop} (F:Fm O lo nrem pre P) (hj:j<=nrem) (h:Q () (abP lo pre pd mg (kas_rev P i j))):W O (reverseSlice' (lo+i) (lo+j)) Q (abP lo pre pd mg P):=by
 rw [reverseSlice'_eq]
 refine W.modify _ ?_ h
 show E4 O.κ (mirror ((abP lo pre pd mg P).p.map (kas_item O.it)) (lo+i) (lo+j) (((lo+j) - (lo+i)) / 2)) pd mg none=E4 O.κ ((abP lo pre pd mg (kas_rev P i j)).p.map (kas_item O.it)) pd mg none
 have e1:mirror ((abP lo pre pd mg P).p.map (kas_item O.it)) (lo+i) (lo+j) (((lo+j) - (lo+i)) / 2)=(mirror (abP lo pre pd mg P).p (lo+i) (lo+j) (((lo+j) - (lo+i)) / 2)).map (kas_item O.it):=kas_swaps_map (kas_item O.it) (λ k=>lo+i+k) (λ k=>lo+j - 1 - k) _ _
 rw [e1]
 have F':Fm O lo nrem pre (kas_rev P i j):=F.of (bq _ _ F.perm)
 have hz:=(gC F.perm).sz
 congr 2
 apply JK
 intro k
 rw [getElem?_mirror_all (by rw [F.size]; lia)]
 rcases El k lo with hk | hk
 ·rw [if_neg (by lia)]
  show (DA (pre++_))[k]? = (DA (pre++_))[k]?
  have hk':k<pre.length:=by rw [F.pl]; exact hk
  simp [Do hk']
 ·obtain ⟨d,rfl⟩:∃ d,k=lo+d:=⟨k - lo,by lia⟩
  rcases El d nrem with hd | hd
  ·rw [xF (abP lo pre pd mg (kas_rev P i j)).p (lo+d) (by rw [F'.size]; lia),F'.get hd,cz (by lia)]
   by_cases c:i<=d/\d<j
   ·rw [if_pos (by lia),if_pos c,show lo+i+(lo+j) - 1 - (lo+d)=lo+(i+j - 1 - d) by lia,xF _ _ (by rw [F.size]; lia),F.get (by lia)]
   ·rw [if_neg (by lia),if_neg c,xF _ _ (by rw [F.size]; lia),F.get hd]
  ·rw [if_neg (by lia),Gj (by rw [F.size]; lia),Gj (by rw [F'.size]; lia)]
theorem W.movF {Q:Unit->Ab->Prop} (F:Fm O lo nrem pre P) (hk:k<nrem) (hl:l<=k) (h:Q () (abP lo pre pd mg (bubble P k (k - l)))):W O (moveDown' (lo+k) (lo+l)) Q (abP lo pre pd mg P):=by
 rw [moveDown'_eq]
 refine W.modify _ ?_ h
 show E4 O.κ (bubble ((abP lo pre pd mg P).p.map (kas_item O.it)) (lo+k) (lo+k - (lo+l))) pd mg none=E4 O.κ ((abP lo pre pd mg (bubble P k (k - l))).p.map (kas_item O.it)) pd mg none
 have e1:bubble ((abP lo pre pd mg P).p.map (kas_item O.it)) (lo+k) (lo+k - (lo+l))=(bubble (abP lo pre pd mg P).p (lo+k) (lo+k - (lo+l))).map (kas_item O.it):=kas_swaps_map (kas_item O.it) (λ i=>lo+k - i) (λ i=>lo+k - i - 1) _ _
 rw [e1]
 have F':Fm O lo nrem pre (bubble P k (k - l)):=F.of (lg _ _ F.perm)
 have hz:=(gC F.perm).sz
 congr 2
 apply JK
 intro x
 rw [getElem?_bubble (by rw [F.size]; lia) _ (by lia),show lo+k - (lo+k - (lo+l))=lo+l by lia]
 rcases El x lo with hx | hx
 ·rw [if_neg (by lia),if_neg (by lia)]
  show (DA (pre++_))[x]? = (DA (pre++_))[x]?
  have hx':x<pre.length:=by rw [F.pl]; exact hx
  simp [Do hx']
 ·obtain ⟨d,rfl⟩:∃ d,x=lo+d:=⟨x - lo,by lia⟩
  rcases El d nrem with hd | hd
  ·rw [xF (abP lo pre pd mg (bubble P k (k - l))).p (lo+d) (by rw [F'.size]; lia),F'.get hd,iX (by lia) hl]
   by_cases c:d=l
   ·rw [if_pos (by lia),if_pos c,xF _ _ (by rw [F.size]; lia),F.get hk]
   ·rw [if_neg (by lia),if_neg c]
    by_cases c2:l<d/\d<=k
    ·rw [if_pos (by lia),if_pos c2,show lo+d - 1=lo+(d - 1) by lia,xF _ _ (by rw [F.size]; lia),F.get (by lia)]
    ·rw [if_neg (by lia),if_neg c2,xF _ _ (by rw [F.size]; lia),F.get hd]
  ·rw [if_neg (by lia),if_neg (by lia),Gj (by rw [F.size]; lia),Gj (by rw [F'.size]; lia)]
theorem W.cnt {Q:Option Nat->Ab->Prop} (F:Fm O lo nrem pre P) (h1:1<=nrem) (h:Q (some (ev (sh O.lt lo) (kas_count nrem P)).1) (abP lo pre pd mg (ev (sh O.lt lo) (kas_count nrem P)).2)):W O (countRun' lo nrem) Q (abP lo pre pd mg P):=by
 rw [countRun'_eq]
 refine W.bind (W.range (D:=λ c b1=>b1=abP lo pre pd mg P/\c.1=none/\c.2=ev (sh O.lt lo) (kas_asc P (nrem - 1) 1)/\1<=c.2/\c.2<=nrem) (λ k c b1=>b1=abP lo pre pd mg P/\c.1=none/\1<=c.2/\c.2+k=nrem/\ev (sh O.lt lo) (kas_asc P k c.2)=ev (sh O.lt lo) (kas_asc P (nrem - 1) 1)) ⟨rfl,rfl,by show 1<=1; lia,by show 1+(nrem - 1)=nrem; lia,rfl⟩ ?_ ?_ |>.mono λ c b1 hc=>?_)
 ·rintro x k ⟨r,m⟩ b1 ⟨eb,er,q1,q2,q3⟩
  dsimp only at er q1 q2 q3 ⊢
  subst eb er
  rw [show lo+m - 1=lo+(m - 1) by lia]
  refine W.bind (W.ltF F (by lia) (by lia) ?_)
  have q3:ev (sh O.lt lo) (if sh O.lt lo (DI P m 0) (DI P (m - 1) 0)=true then KasT.ret m else kas_asc P k (m+1))=_:=q3
  cases e:sh O.lt lo (DI P m 0) (DI P (m - 1) 0) with
  | true=>
   rw [e,if_pos rfl] at q3
   simp only [if_true]
   exact W.pure ⟨rfl,rfl,q3,q1,by show m<=nrem; lia⟩
  | false=>
   rw [e,if_neg Dt] at q3
   simp only [Dh,if_false]
   exact W.pure ⟨rfl,rfl,by show 1<=m+1; lia,by show m+1+k=nrem; lia,q3⟩
 ·rintro ⟨r,m⟩ b1 ⟨eb,er,q1,q2,q3⟩
  dsimp only at er q1 q2 q3
  exact ⟨eb,er,q3,q1,by show m<=nrem; lia⟩
 obtain ⟨r,m⟩:=c
 obtain ⟨eb,er,em,m1,m2⟩:=hc
 dsimp only at er em m1 m2 ⊢
 subst eb er
 dsimp only
 have ec:ev (sh O.lt lo) (kas_count nrem P)=ev (sh O.lt lo) (if (m == nrem)=true then KasT.ret (m,P) else if m > 1 then KasT.ask (P.getD 0 0) (P.getD (m - 1) 0) λ c=>if c=true then KasT.ret (m,P) else kas_descPart m nrem (kas_rev P 0 m) else kas_descPart m nrem P):=by
  unfold kas_count
  rw [eW,<-em]
 rw [ec] at h
 clear ec em
 by_cases q:(m == nrem)=true
 ·rw [if_pos q] at h ⊢
  exact W.pure h
 rw [if_neg q] at h ⊢
 have q':¬ m=nrem:=by simpa using q
 by_cases hm:m > 1
 ·rw [if_pos hm] at h ⊢
  rw [show lo+m - 1=lo+(m - 1) by lia]
  refine W.bind (W.ltF (i:=0) F (by lia) (by lia) ?_)
  have h:Q (some (ev (sh O.lt lo) (if sh O.lt lo (P.getD 0 0) (P.getD (m - 1) 0)=true then KasT.ret (m,P) else kas_descPart m nrem (kas_rev P 0 m))).1) (abP lo pre pd mg (ev (sh O.lt lo) (if sh O.lt lo (P.getD 0 0) (P.getD (m - 1) 0)=true then KasT.ret (m,P) else kas_descPart m nrem (kas_rev P 0 m))).2):=h
  cases e:sh O.lt lo (P.getD 0 0) (P.getD (m - 1) 0) with
  | true=>
   rw [e,if_pos rfl] at h
   simp only [if_true]
   exact W.pure h
  | false=>
   rw [e,if_neg Dt] at h
   simp only [Dh,if_false]
   refine W.bind (W.revF (i:=0) F (by lia) ?_)
   have F1:=F.of (bq 0 m F.perm)
   have ed:ev (sh O.lt lo) (kas_descPart m nrem (kas_rev P 0 m))=(λ r:Array Nat×Nat×Nat=>ev (sh O.lt lo) (if r.2.2 > 0 then kas_tail3 r.2.1 nrem (kas_rev r.1 (r.2.1 - (r.2.2+1)) r.2.1) else kas_tail3 r.2.1 nrem r.1)) (ev (sh O.lt lo) (kas_desc (nrem - (m+1)) (kas_rev P 0 m) (m+1) 0)):=by
    unfold kas_descPart
    rw [eW]
   rw [ed] at h
   clear ed
   refine W.bind (W.rule ?_)
   refine W.bind (W.range (D:=λ c b1=>c.1=none/\∃ P',b1=abP lo pre pd mg P'/\Fm O lo nrem pre P'/\(P',c.2.1,c.2.2)=ev (sh O.lt lo) (kas_desc (nrem - (m+1)) (kas_rev P 0 m) (m+1) 0)/\c.2.2+1<=c.2.1/\c.2.1<=nrem) (λ k c b1=>c.1=none/\∃ P',b1=abP lo pre pd mg P'/\Fm O lo nrem pre P'/\ev (sh O.lt lo) (kas_desc k P' c.2.1 c.2.2)=ev (sh O.lt lo) (kas_desc (nrem - (m+1)) (kas_rev P 0 m) (m+1) 0)/\c.2.2+1<=c.2.1/\c.2.1+k=nrem) ⟨rfl,_,rfl,F1,rfl,by show 0+1<=m+1; lia,by show m+1+(nrem - (m+1))=nrem; lia⟩ ?_ ?_ |>.mono λ c b1 hc=>?_)
   ·rintro x k ⟨r,u,v⟩ b1 ⟨er,P',eb,F',q3,q1,q2⟩
    dsimp only at er q1 q2 q3 ⊢
    subst eb er
    rw [show lo+u - 1=lo+(u - 1) by lia,show lo+u - (v+1)=lo+(u - (v+1)) by lia]
    refine W.bind (W.ltF F' (by lia) (by lia) ?_)
    have q3:ev (sh O.lt lo) (if sh O.lt lo (P'.getD u 0) (P'.getD (u - 1) 0)=true then (if v > 0 then kas_desc k (kas_rev P' (u - (v+1)) u) (u+1) 0 else kas_desc k P' (u+1) 0) else KasT.ask (P'.getD (u - 1) 0) (P'.getD u 0) λ d=>if d=true then KasT.ret (P',u,v) else kas_desc k P' (u+1) (v+1))=_:=q3
    cases e:sh O.lt lo (P'.getD u 0) (P'.getD (u - 1) 0) with
    | true=>
     rw [e,if_pos rfl] at q3
     simp only [if_true]
     by_cases hv:v > 0
     ·rw [if_pos hv] at q3 ⊢
      exact W.bind (W.revF F' (by lia) (W.pure ⟨rfl,_,rfl,F'.of (bq _ _ F'.perm),q3,by show 0+1<=u+1; lia,by show u+1+k=nrem; lia⟩))
     ·rw [if_neg hv] at q3 ⊢
      exact W.pure ⟨rfl,_,rfl,F',q3,by show 0+1<=u+1; lia,by show u+1+k=nrem; lia⟩
    | false=>
     rw [e,if_neg Dt] at q3
     simp only [Dh,if_false]
     refine W.bind (W.ltF F' (by lia) (by lia) ?_)
     have q3:ev (sh O.lt lo) (if sh O.lt lo (P'.getD (u - 1) 0) (P'.getD u 0)=true then KasT.ret (P',u,v) else kas_desc k P' (u+1) (v+1))=_:=q3
     cases e2:sh O.lt lo (P'.getD (u - 1) 0) (P'.getD u 0) with
     | true=>
      rw [e2,if_pos rfl] at q3
      simp only [if_true]
      exact W.pure ⟨rfl,_,rfl,F',q3,q1,by show u<=nrem; lia⟩
     | false=>
      rw [e2,if_neg Dt] at q3
      simp only [Dh,if_false]
      exact W.pure ⟨rfl,_,rfl,F',q3,by show v+1+1<=u+1; lia,by show u+1+k=nrem; lia⟩
   ·rintro ⟨r,u,v⟩ b1 ⟨er,P',eb,F',q3,q1,q2⟩
    dsimp only at er q1 q2 q3
    exact ⟨er,P',eb,F',q3,q1,by show u<=nrem; lia⟩
   obtain ⟨r,u,v⟩:=c
   obtain ⟨er,P',eb,F',e9,q1,q2⟩:=hc
   dsimp only at er e9 q1 q2 ⊢
   subst eb er
   rw [<-e9] at h
   dsimp only at h ⊢
   rw [show lo+u - (v+1)=lo+(u - (v+1)) by lia]
   by_cases hv:v > 0
   ·rw [if_pos hv] at h ⊢
    refine W.bind (W.revF F' (by lia) ?_)
    have F3:=F'.of (bq (u - (v+1)) u F'.perm)
    generalize kas_rev P' (u - (v+1)) u=P3 at F3 h ⊢
    have e3:ev (sh O.lt lo) (kas_tail3 u nrem P3)=(ev (sh O.lt lo) (kas_asc (kas_rev P3 0 u) (nrem - u) u),kas_rev P3 0 u):=by
     unfold kas_tail3
     rw [eW]; rfl
    rw [e3] at h
    have F4:=F3.of (bq 0 u F3.perm)
    refine W.bind (W.revF (i:=0) F3 (by lia) ?_)
    refine W.bind (W.range (D:=λ c b1=>b1=abP lo pre pd mg (kas_rev P3 0 u)/\c.1=none/\c.2=ev (sh O.lt lo) (kas_asc (kas_rev P3 0 u) (nrem - u) u)/\1<=c.2/\c.2<=nrem) (λ k c b1=>b1=abP lo pre pd mg (kas_rev P3 0 u)/\c.1=none/\1<=c.2/\c.2+k=nrem/\ev (sh O.lt lo) (kas_asc (kas_rev P3 0 u) k c.2)=ev (sh O.lt lo) (kas_asc (kas_rev P3 0 u) (nrem - u) u)) ⟨rfl,rfl,by show 1<=u; lia,by show u+(nrem - u)=nrem; lia,rfl⟩ ?_ ?_ |>.mono λ c b1 hc=>?_)
    ·rintro x k ⟨r,m⟩ b1 ⟨eb,er,q1,q2,q3⟩
     dsimp only at er q1 q2 q3 ⊢
     subst eb er
     rw [show lo+m - 1=lo+(m - 1) by lia]
     refine W.bind (W.ltF F4 (by lia) (by lia) ?_)
     have q3:ev (sh O.lt lo) (if sh O.lt lo (DI (kas_rev P3 0 u) m 0) (DI (kas_rev P3 0 u) (m - 1) 0)=true then KasT.ret m else kas_asc (kas_rev P3 0 u) k (m+1))=_:=q3
     cases e:sh O.lt lo (DI (kas_rev P3 0 u) m 0) (DI (kas_rev P3 0 u) (m - 1) 0) with
     | true=>
      rw [e,if_pos rfl] at q3
      simp only [if_true]
      exact W.pure ⟨rfl,rfl,q3,q1,by show m<=nrem; lia⟩
     | false=>
      rw [e,if_neg Dt] at q3
      simp only [Dh,if_false]
      exact W.pure ⟨rfl,rfl,by show 1<=m+1; lia,by show m+1+k=nrem; lia,q3⟩
    ·rintro ⟨r,m⟩ b1 ⟨eb,er,q1,q2,q3⟩
     dsimp only at er q1 q2 q3
     exact ⟨eb,er,q3,q1,by show m<=nrem; lia⟩
    obtain ⟨r,z⟩:=c
    obtain ⟨eb,er,em,z1,z2⟩:=hc
    dsimp only at er em z1 z2 ⊢
    subst eb er
    rw [<-em] at h
    exact W.pure h
   ·rw [if_neg hv] at h ⊢
    have F3:=F'
    generalize P'=P3 at F3 h ⊢
    have e3:ev (sh O.lt lo) (kas_tail3 u nrem P3)=(ev (sh O.lt lo) (kas_asc (kas_rev P3 0 u) (nrem - u) u),kas_rev P3 0 u):=by
     unfold kas_tail3
     rw [eW]; rfl
    rw [e3] at h
    have F4:=F3.of (bq 0 u F3.perm)
    refine W.bind (W.revF (i:=0) F3 (by lia) ?_)
    refine W.bind (W.range (D:=λ c b1=>b1=abP lo pre pd mg (kas_rev P3 0 u)/\c.1=none/\c.2=ev (sh O.lt lo) (kas_asc (kas_rev P3 0 u) (nrem - u) u)/\1<=c.2/\c.2<=nrem) (λ k c b1=>b1=abP lo pre pd mg (kas_rev P3 0 u)/\c.1=none/\1<=c.2/\c.2+k=nrem/\ev (sh O.lt lo) (kas_asc (kas_rev P3 0 u) k c.2)=ev (sh O.lt lo) (kas_asc (kas_rev P3 0 u) (nrem - u) u)) ⟨rfl,rfl,by show 1<=u; lia,by show u+(nrem - u)=nrem; lia,rfl⟩ ?_ ?_ |>.mono λ c b1 hc=>?_)
    ·rintro x k ⟨r,m⟩ b1 ⟨eb,er,q1,q2,q3⟩
     dsimp only at er q1 q2 q3 ⊢
     subst eb er
     rw [show lo+m - 1=lo+(m - 1) by lia]
     refine W.bind (W.ltF F4 (by lia) (by lia) ?_)
     have q3:ev (sh O.lt lo) (if sh O.lt lo (DI (kas_rev P3 0 u) m 0) (DI (kas_rev P3 0 u) (m - 1) 0)=true then KasT.ret m else kas_asc (kas_rev P3 0 u) k (m+1))=_:=q3
     cases e:sh O.lt lo (DI (kas_rev P3 0 u) m 0) (DI (kas_rev P3 0 u) (m - 1) 0) with
     | true=>
      rw [e,if_pos rfl] at q3
      simp only [if_true]
      exact W.pure ⟨rfl,rfl,q3,q1,by show m<=nrem; lia⟩
     | false=>
      rw [e,if_neg Dt] at q3
      simp only [Dh,if_false]
      exact W.pure ⟨rfl,rfl,by show 1<=m+1; lia,by show m+1+k=nrem; lia,q3⟩
    ·rintro ⟨r,m⟩ b1 ⟨eb,er,q1,q2,q3⟩
     dsimp only at er q1 q2 q3
     exact ⟨eb,er,q3,q1,by show m<=nrem; lia⟩
    obtain ⟨r,z⟩:=c
    obtain ⟨eb,er,em,z1,z2⟩:=hc
    dsimp only at er em z1 z2 ⊢
    subst eb er
    rw [<-em] at h
    exact W.pure h
 ·rw [if_neg hm] at h ⊢
  have ed:ev (sh O.lt lo) (kas_descPart m nrem P)=(λ r:Array Nat×Nat×Nat=>ev (sh O.lt lo) (if r.2.2 > 0 then kas_tail3 r.2.1 nrem (kas_rev r.1 (r.2.1 - (r.2.2+1)) r.2.1) else kas_tail3 r.2.1 nrem r.1)) (ev (sh O.lt lo) (kas_desc (nrem - (m+1)) P (m+1) 0)):=by
   unfold kas_descPart
   rw [eW]
  rw [ed] at h
  clear ed
  refine W.bind (W.rule ?_)
  refine W.bind (W.range (D:=λ c b1=>c.1=none/\∃ P',b1=abP lo pre pd mg P'/\Fm O lo nrem pre P'/\(P',c.2.1,c.2.2)=ev (sh O.lt lo) (kas_desc (nrem - (m+1)) P (m+1) 0)/\c.2.2+1<=c.2.1/\c.2.1<=nrem) (λ k c b1=>c.1=none/\∃ P',b1=abP lo pre pd mg P'/\Fm O lo nrem pre P'/\ev (sh O.lt lo) (kas_desc k P' c.2.1 c.2.2)=ev (sh O.lt lo) (kas_desc (nrem - (m+1)) P (m+1) 0)/\c.2.2+1<=c.2.1/\c.2.1+k=nrem) ⟨rfl,_,rfl,F,rfl,by show 0+1<=m+1; lia,by show m+1+(nrem - (m+1))=nrem; lia⟩ ?_ ?_ |>.mono λ c b1 hc=>?_)
  ·rintro x k ⟨r,u,v⟩ b1 ⟨er,P',eb,F',q3,q1,q2⟩
   dsimp only at er q1 q2 q3 ⊢
   subst eb er
   rw [show lo+u - 1=lo+(u - 1) by lia,show lo+u - (v+1)=lo+(u - (v+1)) by lia]
   refine W.bind (W.ltF F' (by lia) (by lia) ?_)
   have q3:ev (sh O.lt lo) (if sh O.lt lo (P'.getD u 0) (P'.getD (u - 1) 0)=true then (if v > 0 then kas_desc k (kas_rev P' (u - (v+1)) u) (u+1) 0 else kas_desc k P' (u+1) 0) else KasT.ask (P'.getD (u - 1) 0) (P'.getD u 0) λ d=>if d=true then KasT.ret (P',u,v) else kas_desc k P' (u+1) (v+1))=_:=q3
   cases e:sh O.lt lo (P'.getD u 0) (P'.getD (u - 1) 0) with
   | true=>
    rw [e,if_pos rfl] at q3
    simp only [if_true]
    by_cases hv:v > 0
    ·rw [if_pos hv] at q3 ⊢
     exact W.bind (W.revF F' (by lia) (W.pure ⟨rfl,_,rfl,F'.of (bq _ _ F'.perm),q3,by show 0+1<=u+1; lia,by show u+1+k=nrem; lia⟩))
    ·rw [if_neg hv] at q3 ⊢
     exact W.pure ⟨rfl,_,rfl,F',q3,by show 0+1<=u+1; lia,by show u+1+k=nrem; lia⟩
   | false=>
    rw [e,if_neg Dt] at q3
    simp only [Dh,if_false]
    refine W.bind (W.ltF F' (by lia) (by lia) ?_)
    have q3:ev (sh O.lt lo) (if sh O.lt lo (P'.getD (u - 1) 0) (P'.getD u 0)=true then KasT.ret (P',u,v) else kas_desc k P' (u+1) (v+1))=_:=q3
    cases e2:sh O.lt lo (P'.getD (u - 1) 0) (P'.getD u 0) with
    | true=>
     rw [e2,if_pos rfl] at q3
     simp only [if_true]
     exact W.pure ⟨rfl,_,rfl,F',q3,q1,by show u<=nrem; lia⟩
    | false=>
     rw [e2,if_neg Dt] at q3
     simp only [Dh,if_false]
     exact W.pure ⟨rfl,_,rfl,F',q3,by show v+1+1<=u+1; lia,by show u+1+k=nrem; lia⟩
  ·rintro ⟨r,u,v⟩ b1 ⟨er,P',eb,F',q3,q1,q2⟩
   dsimp only at er q1 q2 q3
   exact ⟨er,P',eb,F',q3,q1,by show u<=nrem; lia⟩
  obtain ⟨r,u,v⟩:=c
  obtain ⟨er,P',eb,F',e9,q1,q2⟩:=hc
  dsimp only at er e9 q1 q2 ⊢
  subst eb er
  rw [<-e9] at h
  dsimp only at h ⊢
  rw [show lo+u - (v+1)=lo+(u - (v+1)) by lia]
  by_cases hv:v > 0
  ·rw [if_pos hv] at h ⊢
   refine W.bind (W.revF F' (by lia) ?_)
   have F3:=F'.of (bq (u - (v+1)) u F'.perm)
   generalize kas_rev P' (u - (v+1)) u=P3 at F3 h ⊢
   have e3:ev (sh O.lt lo) (kas_tail3 u nrem P3)=(ev (sh O.lt lo) (kas_asc (kas_rev P3 0 u) (nrem - u) u),kas_rev P3 0 u):=by
    unfold kas_tail3
    rw [eW]; rfl
   rw [e3] at h
   have F4:=F3.of (bq 0 u F3.perm)
   refine W.bind (W.revF (i:=0) F3 (by lia) ?_)
   refine W.bind (W.range (D:=λ c b1=>b1=abP lo pre pd mg (kas_rev P3 0 u)/\c.1=none/\c.2=ev (sh O.lt lo) (kas_asc (kas_rev P3 0 u) (nrem - u) u)/\1<=c.2/\c.2<=nrem) (λ k c b1=>b1=abP lo pre pd mg (kas_rev P3 0 u)/\c.1=none/\1<=c.2/\c.2+k=nrem/\ev (sh O.lt lo) (kas_asc (kas_rev P3 0 u) k c.2)=ev (sh O.lt lo) (kas_asc (kas_rev P3 0 u) (nrem - u) u)) ⟨rfl,rfl,by show 1<=u; lia,by show u+(nrem - u)=nrem; lia,rfl⟩ ?_ ?_ |>.mono λ c b1 hc=>?_)
   ·rintro x k ⟨r,m⟩ b1 ⟨eb,er,q1,q2,q3⟩
    dsimp only at er q1 q2 q3 ⊢
    subst eb er
    rw [show lo+m - 1=lo+(m - 1) by lia]
    refine W.bind (W.ltF F4 (by lia) (by lia) ?_)
    have q3:ev (sh O.lt lo) (if sh O.lt lo (DI (kas_rev P3 0 u) m 0) (DI (kas_rev P3 0 u) (m - 1) 0)=true then KasT.ret m else kas_asc (kas_rev P3 0 u) k (m+1))=_:=q3
    cases e:sh O.lt lo (DI (kas_rev P3 0 u) m 0) (DI (kas_rev P3 0 u) (m - 1) 0) with
    | true=>
     rw [e,if_pos rfl] at q3
     simp only [if_true]
     exact W.pure ⟨rfl,rfl,q3,q1,by show m<=nrem; lia⟩
    | false=>
     rw [e,if_neg Dt] at q3
     simp only [Dh,if_false]
     exact W.pure ⟨rfl,rfl,by show 1<=m+1; lia,by show m+1+k=nrem; lia,q3⟩
   ·rintro ⟨r,m⟩ b1 ⟨eb,er,q1,q2,q3⟩
    dsimp only at er q1 q2 q3
    exact ⟨eb,er,q3,q1,by show m<=nrem; lia⟩
   obtain ⟨r,z⟩:=c
   obtain ⟨eb,er,em,z1,z2⟩:=hc
   dsimp only at er em z1 z2 ⊢
   subst eb er
   rw [<-em] at h
   exact W.pure h
  ·rw [if_neg hv] at h ⊢
   have F3:=F'
   generalize P'=P3 at F3 h ⊢
   have e3:ev (sh O.lt lo) (kas_tail3 u nrem P3)=(ev (sh O.lt lo) (kas_asc (kas_rev P3 0 u) (nrem - u) u),kas_rev P3 0 u):=by
    unfold kas_tail3
    rw [eW]; rfl
   rw [e3] at h
   have F4:=F3.of (bq 0 u F3.perm)
   refine W.bind (W.revF (i:=0) F3 (by lia) ?_)
   refine W.bind (W.range (D:=λ c b1=>b1=abP lo pre pd mg (kas_rev P3 0 u)/\c.1=none/\c.2=ev (sh O.lt lo) (kas_asc (kas_rev P3 0 u) (nrem - u) u)/\1<=c.2/\c.2<=nrem) (λ k c b1=>b1=abP lo pre pd mg (kas_rev P3 0 u)/\c.1=none/\1<=c.2/\c.2+k=nrem/\ev (sh O.lt lo) (kas_asc (kas_rev P3 0 u) k c.2)=ev (sh O.lt lo) (kas_asc (kas_rev P3 0 u) (nrem - u) u)) ⟨rfl,rfl,by show 1<=u; lia,by show u+(nrem - u)=nrem; lia,rfl⟩ ?_ ?_ |>.mono λ c b1 hc=>?_)
   ·rintro x k ⟨r,m⟩ b1 ⟨eb,er,q1,q2,q3⟩
    dsimp only at er q1 q2 q3 ⊢
    subst eb er
    rw [show lo+m - 1=lo+(m - 1) by lia]
    refine W.bind (W.ltF F4 (by lia) (by lia) ?_)
    have q3:ev (sh O.lt lo) (if sh O.lt lo (DI (kas_rev P3 0 u) m 0) (DI (kas_rev P3 0 u) (m - 1) 0)=true then KasT.ret m else kas_asc (kas_rev P3 0 u) k (m+1))=_:=q3
    cases e:sh O.lt lo (DI (kas_rev P3 0 u) m 0) (DI (kas_rev P3 0 u) (m - 1) 0) with
    | true=>
     rw [e,if_pos rfl] at q3
     simp only [if_true]
     exact W.pure ⟨rfl,rfl,q3,q1,by show m<=nrem; lia⟩
    | false=>
     rw [e,if_neg Dt] at q3
     simp only [Dh,if_false]
     exact W.pure ⟨rfl,rfl,by show 1<=m+1; lia,by show m+1+k=nrem; lia,q3⟩
   ·rintro ⟨r,m⟩ b1 ⟨eb,er,q1,q2,q3⟩
    dsimp only at er q1 q2 q3
    exact ⟨eb,er,q3,q1,by show m<=nrem; lia⟩
   obtain ⟨r,z⟩:=c
   obtain ⟨eb,er,em,z1,z2⟩:=hc
   dsimp only at er em z1 z2 ⊢
   subst eb er
   rw [<-em] at h
   exact W.pure h
end
section
variable {O:Orc} {b:Ab} {lo n nrem:Nat} {pre:List Nat} {pd:Array (Nat×Nat×Nat)} {mg:Nat} {P:Array Nat}
theorem W.bin {ok:Nat} {Q:Bool->Ab->Prop} (H:Lt O.lt) (F:Fm O lo nrem pre P) (R:Rn nrem (sh O.lt lo) P ok) (h1:1<=ok) (hn:ok<=n) (hn2:n<=nrem) (h:∀ P',Fm O lo nrem pre P'->Rn nrem (sh O.lt lo) P' n->Q true (abP lo pre pd mg P')) :
  W O (binarySort' lo n ok) Q (abP lo pre pd mg P):=by
 have H':=H.sh lo
 rw [binarySort'_eq]
 rw [show max ok 1=ok by lia]
 refine W.bind (W.rangeV (D:=λ c b1=>c.1=none/\∃ P',b1=abP lo pre pd mg P'/\Fm O lo nrem pre P'/\Rn nrem (sh O.lt lo) P' n) (λ k c b1=>c.1=none/\∃ P',b1=abP lo pre pd mg P'/\Fm O lo nrem pre P'/\Rn nrem (sh O.lt lo) P' k) hn ⟨rfl,P,rfl,F,R⟩ ?_ ?_ |>.mono λ c b1 hc=>?_)
 ·rintro k ⟨r,u⟩ b1 hk1 hk2 ⟨er,P',eb,F',R'⟩
  dsimp only at er
  subst eb er
  have ek:P'.getD k 0=k:=R'.tl k (C8 _) (by lia)
  refine W.bind (W.range (D:=λ c b1=>b1=abP lo pre pd mg P'/\c.1=none/\c.2.1<=k/\(∀ i,i<c.2.1->sh O.lt lo k (P'.getD i 0)=false)/\∀ i,c.2.1<=i->i<k->sh O.lt lo k (P'.getD i 0)=true)
   (λ j c b1=>b1=abP lo pre pd mg P'/\c.1=none/\c.2.1<=c.2.2/\c.2.2<=k/\c.2.2 - c.2.1<=j/\(∀ i,i<c.2.1->sh O.lt lo k (P'.getD i 0)=false)/\∀ i,c.2.2<=i->i<k->sh O.lt lo k (P'.getD i 0)=true)
   ⟨rfl,rfl,Du _,C8 _,by show k - 0<=k - 0; lia,λ i hi=>absurd hi (EF _),λ i h1 h2=>absurd h1 (by show ¬ k<=i; lia)⟩ ?_ ?_ |>.mono λ c b1 hc=>?_)
  ·rintro x j ⟨r,l,t⟩ b1 ⟨eb,er,q1,q2,q3,q4,q5⟩
   dsimp only at er q1 q2 q3 q4 q5 ⊢
   subst eb er
   by_cases c:l>=t
   ·rw [if_pos c]
    exact W.pure ⟨rfl,rfl,by show l<=k; lia,q4,λ i h1 h2=>q5 i (by have:l<=i:=h1; lia) h2⟩
   ·rw [if_neg c]
    refine W.bind (W.ltF F' (by lia) (by lia) ?_)
    rw [ek]
    cases e:sh O.lt lo k (P'.getD ((l+t) / 2) 0) with
    | true=>
     simp only [if_true]
     refine W.pure ⟨rfl,rfl,by show l<=(l+t) / 2; lia,by show (l+t) / 2<=k; lia,by show (l+t) / 2 - l<=j; lia,q4,λ i h1 h2=>?_⟩
     rcases Ff (show (l+t) / 2<=i from h1) with z | z
     ·rw [<-z]; exact e
     ·exact m7 H' e (R'.up.at H' z h2).1
    | false=>
     simp only [Dh,if_false]
     refine W.pure ⟨rfl,rfl,by show (l+t) / 2+1<=t; lia,q2,by show t - ((l+t) / 2+1)<=j; lia,λ i h1=>?_,q5⟩
     have h1:i<(l+t) / 2+1:=h1
     rcases El i ((l+t) / 2) with z | z
     ·exact H'.tr _ _ _ e (R'.up.at H' z (by lia)).1
     ·have:i=(l+t) / 2:=by lia
      rw [this]; exact e
  ·rintro ⟨r,l,t⟩ b1 ⟨eb,er,q1,q2,q3,q4,q5⟩
   dsimp only at er q1 q2 q3 q4 q5
   exact ⟨eb,er,by show l<=k; lia,q4,λ i h1 h2=>q5 i (by have:l<=i:=h1; lia) h2⟩
  ·obtain ⟨r,l,t⟩:=c
   obtain ⟨eb,er,q1,q4,q5⟩:=hc
   dsimp only at er q1 q4 q5 ⊢
   subst eb er
   exact W.bind (W.movF F' (by lia) q1 (W.pure ⟨rfl,_,rfl,F'.of (lg _ _ F'.perm),R'.put H' (by lia) q1 q4 q5⟩))
 ·rintro ⟨r,u⟩ b1 hc
  exact hc
 ·obtain ⟨r,u⟩:=c
  obtain ⟨er,P',eb,F',R'⟩:=hc
  dsimp only at er ⊢
  subst eb er
  exact W.pure (h P' F' R')
noncomputable def Gd (O:Orc):Nat->List (List Nat)->List (Nat×Nat×Nat)->Prop
 | _,[],[]=>True
 | s,r::rs,d::ds=>d.1=s/\d.2.1=r.length/\0<r.length/\r.Perm (DS s r.length)/\r.Pairwise (Ah O.lt)/\Gd O (s+r.length) rs ds
 | _,_,_=>False
theorem Gd.len:∀ {s:Nat} {rs:List (List Nat)} {ds:List (Nat×Nat×Nat)},Gd O s rs ds->rs.length=ds.length
 | _,[],[],_=>rfl
 | _,_::_,_::_,h=>by rw [DD,DD,Gd.len h.2.2.2.2.2]
 | _,[],_::_,h=>h.elim
 | _,_::_,[],h=>h.elim
theorem Gd.app:∀ {s:Nat} {rs:List (List Nat)} {ds:List (Nat×Nat×Nat)} {rs':List (List Nat)} {ds':List (Nat×Nat×Nat)},Gd O s rs ds->Gd O (s+rs.flatten.length) rs' ds'->Gd O s (rs++rs') (ds++ds')
 | _,[],[],_,_,_,h=>by simpa using h
 | s,r::rs,d::ds,rs',ds',h,h'=>by
  refine ⟨h.1,h.2.1,h.2.2.1,h.2.2.2.1,h.2.2.2.2.1,Gd.app h.2.2.2.2.2 ?_⟩
  rw [EX,Dg,<-Gc] at h'
  exact h'
 | _,[],_::_,_,_,h,_=>h.elim
 | _,_::_,[],_,_,h,_=>h.elim
theorem Gd.cut:∀ {s:Nat} (rs:List (List Nat)) {ds:List (Nat×Nat×Nat)} {rs':List (List Nat)},Gd O s (rs++rs') ds->∃ da db,ds=da++db/\Gd O s rs da/\Gd O (s+rs.flatten.length) rs' db
 | s,[],ds,rs',h=>⟨[],ds,rfl,trivial,by simpa using h⟩
 | s,r::rs,[],rs',h=>h.elim
 | s,r::rs,d::ds,rs',h=>by
  obtain ⟨da,db,e,a,c⟩:=Gd.cut rs h.2.2.2.2.2
  refine ⟨d::da,db,by rw [e]; rfl,⟨h.1,h.2.1,h.2.2.1,h.2.2.2.1,h.2.2.2.2.1,a⟩,?_⟩
  rw [EX,Dg,<-Gc]; exact c
theorem Gd.pair {rs:List (List Nat)} {ds:List (Nat×Nat×Nat)} (h:Gd O 0 rs ds) (hi:i+1<rs.length):∃ A R1 R2 B pw pw2,rs=A++R1::R2::B/\A.length=i/\ds[i]? = some (A.flatten.length,R1.length,pw)/\ds[i+1]? = some (A.flatten.length+R1.length,R2.length,pw2)/\
  R1.Pairwise (Ah O.lt)/\R2.Pairwise (Ah O.lt)/\0<R1.length/\0<R2.length/\(∀ x∈R1,∀ y∈R2,x<y)/\
  ∀ M:List Nat,M.Perm (R1++R2)->M.Pairwise (Ah O.lt)->Gd O 0 (A++M::B) ((ds.set i (A.flatten.length,R1.length+R2.length,pw)).eraseIdx (i+1)):=by
 have e1:rs=rs.take i++rs[i]::rs[i+1]::rs.drop (i+2):=by
  have h1:=EJ (show i<rs.length by lia)
  have h2:=EJ hi
  have:rs.take i++rs.drop i=rs:=DP i rs
  rw [h1,h2] at this
  exact this.symm
 have hA:(rs.take i).length=i:=by rw [Df]; lia
 generalize rs.take i=A at e1 hA
 generalize rs[i]=R1 at e1
 generalize rs[i+1]=R2 at e1
 generalize rs.drop (i+2)=B at e1
 subst e1
 obtain ⟨da,db,rfl,ga,gb⟩:=Gd.cut A h
 have hda:=ga.len
 rw [EG] at gb
 match db,gb with
 | [],gb=>exact gb.elim
 | [_],gb=>exact gb.2.2.2.2.2.elim
 | (u,nu,pw)::(v,nv,pw2)::db,gb=>
  obtain ⟨x1,x2,x3,x4,x5,y1,y2,y3,y4,y5,gz⟩:=gb
  dsimp only at x1 x2 y1 y2
  subst x1 x2 y1 y2
  have la:da.length=i:=by lia
  refine ⟨A,R1,R2,B,pw,pw2,rfl,hA,?_,?_,x5,y5,x3,y3,λ x hx y hy=>?_,λ M hm hs=>?_⟩
  ·rw [Dy (by lia),la,FT]; rfl
  ·rw [Dy (by lia),la,show i+1 - i=1 by lia]; rfl
  ·have hx':=x4.mem_iff.mp hx
   have hy':=y4.mem_iff.mp hy
   rw [FG] at hx' hy'
   lia
  ·have ml:M.length=R1.length+R2.length:=by rw [hm.length_eq,Dg]
   have ed:((da++(A.flatten.length,R1.length,pw)::(A.flatten.length+R1.length,R2.length,pw2)::db).set i (A.flatten.length,R1.length+R2.length,pw)).eraseIdx (i+1)=da++(A.flatten.length,R1.length+R2.length,pw)::db:=by
    rw [List.set_append_right _ _ (by lia),la,FT,Hz,List.eraseIdx_append_of_length_le (by lia),la,show i+1 - i=1 by lia]
    rfl
   rw [ed]
   refine ga.app ⟨?_,ml.symm,by lia,?_,hs,?_⟩
   ·show _=0+A.flatten.length; lia
   ·rw [EG,ml,<-Jr]
    exact hm.trans (x4.append y4)
   ·rw [EG,ml,<-Gc]; exact gz
theorem Gd.below:∀ {s:Nat} {rs:List (List Nat)} {ds:List (Nat×Nat×Nat)},Gd O s rs ds->∀ x∈rs.flatten,x<s+rs.flatten.length
 | _,[],[],_,x,hx=>by simp at hx
 | s,r::rs,d::ds,h,x,hx=>by
  rw [EX] at hx ⊢
  rw [Dg]
  rcases DG.mp hx with z | z
  ·have:=FG.mp (h.2.2.2.1.mem_iff.mp z); lia
  ·have:=Gd.below h.2.2.2.2.2 x z; lia
 | _,[],_::_,h,_,_=>h.elim
 | _,_::_,[],h,_,_=>h.elim
theorem Gd.many:∀ {s:Nat} {rs:List (List Nat)} {ds:List (Nat×Nat×Nat)},Gd O s rs ds->rs.length<=rs.flatten.length
 | _,[],[],_=>C8 _
 | s,r::rs,d::ds,h=>by
  have:=Gd.many h.2.2.2.2.2
  have:=h.2.2.1
  rw [EX,Dg,DD]; lia
 | _,[],_::_,h=>h.elim
 | _,_::_,[],h=>h.elim
theorem Gd.pow {f:Nat×Nat×Nat->Nat×Nat×Nat} (hf:∀ d,(f d).1=d.1/\(f d).2.1=d.2.1):∀ {s:Nat} {rs:List (List Nat)} {ds:List (Nat×Nat×Nat)} (i:Nat),Gd O s rs ds->Gd O s rs (ds.modify i f)
 | _,[],[],i,_=>by simp; trivial
 | s,r::rs,d::ds,0,h=>by
  rw [List.modify_zero_cons]
  exact ⟨(hf d).1.trans h.1,(hf d).2.trans h.2.1,h.2.2⟩
 | s,r::rs,d::ds,i+1,h=>by
  rw [List.modify_succ_cons]
  exact ⟨h.1,h.2.1,h.2.2.1,h.2.2.2.1,h.2.2.2.2.1,Gd.pow hf i h.2.2.2.2.2⟩
 | _,[],_::_,_,h=>h.elim
 | _,_::_,[],_,h=>h.elim
theorem vE (lo n:Nat):(C9 n).map (· + lo)=DS lo n:=by
 have:(λ x:Nat=>x+lo)=λ x=>lo+x:=funext λ x=>IB x lo
 rw [this,G8,List.map_add_range']; simp
theorem Rn.split (R:Rn nrem (sh O.lt lo) P n) (H:Lt O.lt):∃ r,P.toList.map (· + lo)=r++DS (lo+n) (nrem - n)/\r.length=n/\r.Perm (DS lo n)/\r.Pairwise (Ah O.lt):=by
 have Pm:=gC R.perm
 have ht:=R.top
 have hz:=Pm.sz
 have hr:DS lo nrem=DS lo n++DS (lo+n) (nrem - n):=by rw [Jr]; congr 1; lia
 have hp:(P.toList.map (· + lo)).Perm (DS lo nrem):=by
  have h1:P.toList.Perm (C9 nrem):=by simpa using H0.mp R.perm
  have h2:(C9 nrem).map (· + lo)=DS lo nrem:=vE lo nrem
  rw [<-h2]; exact h1.map _
 have hd:(P.toList.drop n).map (· + lo)=DS (lo+n) (nrem - n):=by
  apply Fv
  ·simp [hz]
  ·intro i h1 h2
   have hi:n+i<nrem:=by simp at h2; lia
   have:=R.tl (n+i) (by lia) hi
   have e:P.getD (n+i) 0=P.toList[n+i]'(by simp [hz]; exact hi):=by simp [DI,hz,hi]
   rw [e] at this
   rw [Fb,Gp,this,List.getElem_range']
   lia
 refine ⟨(P.toList.take n).map (· + lo),?_,by simp [hz]; lia,?_,?_⟩
 ·rw [<-hd,<-Dr,DP]
 ·have:((P.toList.take n).map (· + lo)++DS (lo+n) (nrem - n)).Perm (DS lo n++DS (lo+n) (nrem - n)):=by
   rw [<-hd,<-Dr,DP,hd,<-hr]; exact hp
  exact (List.perm_append_right_iff _).mp this
 ·rw [DK]
  intro i j hi hj hij
  have hi':i<n:=by simp at hi; lia
  have hj':j<n:=by simp at hj; lia
  have:=R.up.at (H.sh lo) hij hj'
  have e1:P.getD i 0=P.toList[i]'(by simp [hz]; lia):=by simp [DI,hz,show i<nrem by lia]
  have e2:P.getD j 0=P.toList[j]'(by simp [hz]; lia):=by simp [DI,hz,show j<nrem by lia]
  rw [e1,e2] at this
  simp only [Fb,Gq]
  exact ⟨this.1,λ z=>Nat.add_lt_add_right (this.2 z) lo⟩
theorem W.runs {N:Nat} {Q:Unit->Ab->Prop} (H:Lt O.lt) (hN:O.N=N) (h2:2<=N) (h:∀ b':Ab,b'.p.toList.Perm (C9 N)->b'.p.toList.Pairwise (Ah O.lt)->Q () b'):W O sortRuns' Q ⟨DA (C9 N),#[],7⟩:=by
 rw [sortRuns'_eq]
 refine W.bind (W.get ?_)
 have hz:(arrOf (Ab.st O ⟨DA (C9 N),#[],7⟩)).size=N:=by
  show ((DA (C9 N)).map (kas_item O.it)).size=N
  simp
 simp only [hz]
 generalize minRun' N N 0=mr
 have merge:∀ (rs:List (List Nat)) (suf:List Nat) (b1:Ab) (i:Nat),b1.p.toList=rs.flatten++suf->Gd O 0 rs b1.pd.toList->(∀ x∈suf,x<N)->rs.flatten.length<=N->i+1<rs.length->∀ (Q:Bool->Ab->Prop),
   (∀ (rs':List (List Nat)) (b2:Ab),b2.p.toList=rs'.flatten++suf->Gd O 0 rs' b2.pd.toList->rs'.flatten.length=rs.flatten.length->rs'.length+1=rs.length->Q true b2)->W O (mergeAt' i) Q b1:=by
  intro rs suf b1 i e g hs hl hi Q hQ
  obtain ⟨p1,d1,m1⟩:=b1
  dsimp only at e g
  obtain ⟨A,R1,R2,B,pw,pw2,rfl,hA,dd1,dd2,s1,s2,l1,l2,xy,mk⟩:=g.pair hi
  have e':p1.toList=A.flatten++(R1++(R2++(B.flatten++suf))):=by rw [e]; simp
  have bl:=g.below
  refine W.mAt (pre:=A.flatten) (R1:=R1) (R2:=R2) (suf:=B.flatten++suf) ⟨H,e',λ k hk=>?_,s1,s2,xy,l1,l2⟩ (by simpa using dd1) (by simpa using dd2) λ M p' mg' hm hs' ep=>?_
  ·have hk':k<p1.toList.length:=by simpa using hk
   have ek:p1.getD k 0=p1.toList[k]:=by simp [DI,hk]
   rw [ek,hN]
   have hmem:p1.toList[k]∈(A++R1::R2::B).flatten++suf:=by rw [<-e]; exact Dl hk'
   rcases DG.mp hmem with z | z
   ·have:=bl _ z; lia
   ·exact hs _ z
  ·refine hQ (A++M::B) _ (by rw [ep]; simp) ?_ ?_ (by simp; lia)
   ·have:=mk M hm hs'
    have ex:((d1.setIfInBounds i (A.flatten.length,R1.length+R2.length,pw)).eraseIdxIfInBounds (i+1)).toList=(d1.toList.set i (A.flatten.length,R1.length+R2.length,pw)).eraseIdx (i+1):=by
     simp
    show Gd O 0 (A++M::B) ((d1.setIfInBounds i (A.flatten.length,R1.length+R2.length,pw)).eraseIdxIfInBounds (i+1)).toList
    rw [ex]; exact this
   ·have:=hm.length_eq
    simp only [List.flatten_append,EX,Dg] at this ⊢
    lia
 refine W.bind (W.range (D:=λ c b1=>c.1=none/\c.2=N/\∃ rs:List (List Nat),b1.p.toList=rs.flatten++DS c.2 (N - c.2)/\Gd O 0 rs b1.pd.toList/\rs.flatten.length=c.2) (λ k c b1=>c.1=none/\c.2<=N/\N<=c.2+k/\∃ rs:List (List Nat),b1.p.toList=rs.flatten++DS c.2 (N - c.2)/\Gd O 0 rs b1.pd.toList/\rs.flatten.length=c.2) ⟨rfl,Du _,by show N<=0+(N - 0); lia,[],by show (DA (C9 N)).toList=[]++DS 0 (N - 0); simp [G8],by exact trivial,rfl⟩ ?_ ?_ |>.mono λ c b1 hc=>?_)
 rotate_left
 ·rintro ⟨r,lo⟩ b1 ⟨er,q1,q2,q3⟩
  dsimp only at er q1 q2 q3
  exact ⟨er,by show lo=N; lia,q3⟩
 ·obtain ⟨r,lo⟩:=c
  obtain ⟨er,q1,rs,e,g,hl⟩:=hc
  dsimp only at er q1 e g hl ⊢
  subst er q1
  rw [FT,List.range'_zero] at e
  have gm:=g.many
  refine W.bind (W.range (D:=λ c b2=>c.1=none/\∃ rs':List (List Nat),b2.p.toList=rs'.flatten++[]/\Gd O 0 rs' b2.pd.toList/\rs'.flatten.length=lo/\rs'.length<=1) (λ k c b2=>c.1=none/\∃ rs':List (List Nat),b2.p.toList=rs'.flatten++[]/\Gd O 0 rs' b2.pd.toList/\rs'.flatten.length=lo/\rs'.length<=k+1) ⟨rfl,rs,e,g,hl,by show rs.length<=lo - 0+1; lia⟩ ?_ ?_ |>.mono λ c b2 hc=>?_)
  ·rintro x k ⟨r,u⟩ b2 ⟨er,rs',e',g',hl',hk⟩
   dsimp only at er
   subst er
   refine W.bind (W.get ?_)
   have hp:pendingOf (Ab.st O b2)=b2.pd:=rfl
   simp only [hp]
   have hps:b2.pd.size=rs'.length:=by rw [g'.len]; simp
   by_cases c1:b2.pd.size<=1
   ·rw [if_pos c1]
    exact W.pure ⟨rfl,rs',e',g',hl',by lia⟩
   rw [if_neg c1]
   refine W.bind ?_
   refine merge rs' [] b2 _ e' g' (λ x hx=>nomatch hx) (by lia) ?_ _ λ rs2 b3 e3 g3 hl3 hk3=>?_
   ·(repeat' split)<;>lia
   simp only [Gb,Dh,if_false]
   exact W.pure ⟨rfl,rs2,e3,g3,by lia,by lia⟩
  ·rintro ⟨r,u⟩ b2 ⟨er,rs',e',g',hl',hk⟩
   exact ⟨er,rs',e',g',hl',by lia⟩
  ·obtain ⟨r,u⟩:=c
   obtain ⟨er,rs',e',g',hl',hk⟩:=hc
   dsimp only at er ⊢
   subst er
   dsimp only
   refine W.pure ?_
   match rs',hk with
   | [],_=>simp at hl'; lia
   | [r],_=>
    have ev1:b2.p.toList=r:=by rw [e']; simp
    have lr:r.length=lo:=by simpa using hl'
    match hd:b2.pd.toList,g' with
    | d::ds,g'=>
     have pr:=g'.2.2.2.1
     rw [lr] at pr
     refine h b2 (by rw [ev1,G8]; exact pr) (by rw [ev1]; exact g'.2.2.2.2.1)
 rintro x k ⟨r,lo⟩ b1 ⟨er,q1,q2,rs,e,g,hl⟩
 dsimp only at er q1 q2 e g hl ⊢
 subst er
 by_cases c0:lo>=N
 ·rw [if_pos c0]
  exact W.pure ⟨rfl,by show lo=N; lia,rs,e,g,hl⟩
 rw [if_neg c0]
 obtain ⟨p1,d1,m1⟩:=b1
 dsimp only at e g
 have F0:Fm O lo (N - lo) rs.flatten (DA (C9 (N - lo))):=⟨hl,λ x hx=>by have:=g.below x hx; rw [hN]; lia,by rw [hN]; lia,KF _⟩
 have eb:(⟨p1,d1,m1⟩:Ab)=abP lo rs.flatten d1 m1 (DA (C9 (N - lo))):=by
  unfold abP
  congr 1
  apply E2.mp
  rw [e]
  have:(C9 (N - lo)).map (· + lo)=DS lo (N - lo):=vE lo (N - lo)
  simp [this]
 rw [eb]
 have HS:=H.sh lo
 obtain ⟨n1,R1⟩:=Sat.ev _ (rl (N:=N - lo) HS (by lia))
 refine W.bind (W.cnt F0 (by lia) ?_)
 generalize ev (sh O.lt lo) (kas_count (N - lo) (DA (C9 (N - lo))))=R at n1 R1 ⊢
 obtain ⟨n,P1⟩:=R
 dsimp only at n1 R1 ⊢
 have nt:=R1.top
 have F1:Fm O lo (N - lo) rs.flatten P1:=F0.of R1.perm
 by_cases c1:n<mr
 ·rw [if_pos c1]
  refine W.bind (W.rule ?_)
  refine W.bind (W.bin H F1 R1 n1 (show n<=min (N - lo) mr by lia) (by lia) λ P2 F2 R2=>?_)
  have n2:1<=min (N - lo) mr:=by lia
  have nt2:min (N - lo) mr<=N - lo:=by lia
  generalize min (N - lo) mr=n' at R2 n2 nt2 ⊢
  simp only [Gb,Dh,if_false]
  obtain ⟨r,er1,er2,er3,er4⟩:=R2.split H
  have hsuf:∀ x∈r++DS (lo+n') (N - lo - n'),x<N:=λ x hx=>by
   rcases DG.mp hx with z | z
   ·have:=FG.mp (er3.mem_iff.mp z); lia
   ·have:=FG.mp z; lia
  have fin:∀ (rs2:List (List Nat)) (b2:Ab),b2.p.toList=rs2.flatten++(r++DS (lo+n') (N - lo - n'))->Gd O 0 rs2 b2.pd.toList->rs2.flatten.length=lo->(λ c (b1:Ab)=>c.1=none/\c.2<=N/\N<=c.2+k/\∃ rs:List (List Nat),b1.p.toList=rs.flatten++DS c.2 (N - c.2)/\Gd O 0 rs b1.pd.toList/\rs.flatten.length=c.2) ((none:Option PUnit),lo+n') { b2 with pd:=b2.pd.push (lo,n',0) }:=λ rs2 b2 e2 g2 l2=>by
   refine ⟨rfl,by show lo+n'<=N; lia,by show N<=lo+n'+k; lia,rs2++[r],?_,?_,?_⟩
   ·show b2.p.toList=_++DS (lo+n') (N - (lo+n'))
    rw [e2,show N - (lo+n')=N - lo - n' by lia]; simp
   ·show Gd O 0 (rs2++[r]) (b2.pd.push (lo,n',0)).toList
    rw [FF]
    refine g2.app ⟨by show lo=0+rs2.flatten.length; lia,by show n'=r.length; lia,by lia,?_,er4,trivial⟩
    rw [EG,l2,er2]; exact er3
   ·show (rs2++[r]).flatten.length=lo+n'; simp at l2 ⊢; lia
  have e0:(abP lo rs.flatten d1 m1 P2).p.toList=rs.flatten++(r++DS (lo+n') (N - lo - n')):=by rw [<-er1]; rfl
  refine W.bind (W.get ?_)
  have hp:pendingOf (Ab.st O (abP lo rs.flatten d1 m1 P2))=d1:=rfl
  simp only [hp]
  cases hb:d1.back? with
  | none=>
   dsimp only
   exact W.bind (W.modify { abP lo rs.flatten d1 m1 P2 with pd:=d1.push (lo,n',0) } rfl (W.pure (fin rs _ e0 g hl)))
  | some w9=>
   obtain ⟨u9,v9,z9⟩:=w9
   dsimp only
   generalize power' N (2*u9+v9) (2*u9+v9+v9+n') N=pw9
   refine W.bind (W.range (D:=λ c b2=>c.1=none/\∃ rs2:List (List Nat),b2.p.toList=rs2.flatten++(r++DS (lo+n') (N - lo - n'))/\Gd O 0 rs2 b2.pd.toList/\rs2.flatten.length=lo) (λ k c b2=>c.1=none/\∃ rs2:List (List Nat),b2.p.toList=rs2.flatten++(r++DS (lo+n') (N - lo - n'))/\Gd O 0 rs2 b2.pd.toList/\rs2.flatten.length=lo) ⟨rfl,rs,e0,g,hl⟩ ?_ ?_ |>.mono λ c b2 hc=>?_)
   ·rintro x k ⟨r2,u2⟩ b2 ⟨er,rs2,e2,g2,l2⟩
    dsimp only at er
    subst er
    refine W.bind (W.get ?_)
    have hp:pendingOf (Ab.st O b2)=b2.pd:=rfl
    simp only [hp]
    have hps:b2.pd.size=rs2.length:=by rw [g2.len]; simp
    cases ho:(if b2.pd.size > 1 then b2.pd[b2.pd.size - 2]? else none) with
    | none=>exact W.pure ⟨rfl,rs2,e2,g2,l2⟩
    | some w8=>
     obtain ⟨u8,v8,z8⟩:=w8
     dsimp only
     have hgt:b2.pd.size > 1:=by
      by_cases q:b2.pd.size > 1
      ·exact q
      ·rw [if_neg q] at ho; cases ho
     refine W.ite (λ _=>W.pure ⟨rfl,rs2,e2,g2,l2⟩) (λ _=>?_)
     refine W.bind (merge rs2 _ b2 _ e2 g2 hsuf (by lia) (by lia) _ λ rs3 b3 e3 g3 l3 k3=>?_)
     simp only [Gb,Dh,if_false]
     exact W.pure ⟨rfl,rs3,e3,g3,by lia⟩
   ·rintro ⟨r2,u2⟩ b2 hc
    exact hc
   ·obtain ⟨r2,u2⟩:=c
    obtain ⟨er,rs2,e2,g2,l2⟩:=hc
    dsimp only at er ⊢
    subst er
    dsimp only
    have g3:Gd O 0 rs2 (b2.pd.modify (b2.pd.size - 1) λ x=>(x.1,x.2.1,pw9)).toList:=by
     rw [Jy]
     exact g2.pow (f:=λ x=>(x.1,x.2.1,pw9)) (λ d=>⟨rfl,rfl⟩) _
    refine W.bind (W.modify { b2 with pd:=b2.pd.modify (b2.pd.size - 1) λ x=>(x.1,x.2.1,pw9) } rfl ?_)
    exact W.bind (W.modify { b2 with pd:=(b2.pd.modify (b2.pd.size - 1) λ x=>(x.1,x.2.1,pw9)).push (lo,n',0) } rfl (W.pure (fin rs2 { b2 with pd:=b2.pd.modify (b2.pd.size - 1) λ x=>(x.1,x.2.1,pw9) } e2 g3 l2)))
 ·rw [if_neg c1]
  obtain ⟨r,er1,er2,er3,er4⟩:=R1.split H
  have hsuf:∀ x∈r++DS (lo+n) (N - lo - n),x<N:=λ x hx=>by
   rcases DG.mp hx with z | z
   ·have:=FG.mp (er3.mem_iff.mp z); lia
   ·have:=FG.mp z; lia
  have fin:∀ (rs2:List (List Nat)) (b2:Ab),b2.p.toList=rs2.flatten++(r++DS (lo+n) (N - lo - n))->Gd O 0 rs2 b2.pd.toList->rs2.flatten.length=lo->(λ c (b1:Ab)=>c.1=none/\c.2<=N/\N<=c.2+k/\∃ rs:List (List Nat),b1.p.toList=rs.flatten++DS c.2 (N - c.2)/\Gd O 0 rs b1.pd.toList/\rs.flatten.length=c.2) ((none:Option PUnit),lo+n) { b2 with pd:=b2.pd.push (lo,n,0) }:=λ rs2 b2 e2 g2 l2=>by
   refine ⟨rfl,by show lo+n<=N; lia,by show N<=lo+n+k; lia,rs2++[r],?_,?_,?_⟩
   ·show b2.p.toList=_++DS (lo+n) (N - (lo+n))
    rw [e2,show N - (lo+n)=N - lo - n by lia]; simp
   ·show Gd O 0 (rs2++[r]) (b2.pd.push (lo,n,0)).toList
    rw [FF]
    refine g2.app ⟨by show lo=0+rs2.flatten.length; lia,by show n=r.length; lia,by lia,?_,er4,trivial⟩
    rw [EG,l2,er2]; exact er3
   ·show (rs2++[r]).flatten.length=lo+n; simp at l2 ⊢; lia
  have e0:(abP lo rs.flatten d1 m1 P1).p.toList=rs.flatten++(r++DS (lo+n) (N - lo - n)):=by rw [<-er1]; rfl
  refine W.bind (W.get ?_)
  have hp:pendingOf (Ab.st O (abP lo rs.flatten d1 m1 P1))=d1:=rfl
  simp only [hp]
  cases hb:d1.back? with
  | none=>
   dsimp only
   exact W.bind (W.modify { abP lo rs.flatten d1 m1 P1 with pd:=d1.push (lo,n,0) } rfl (W.pure (fin rs _ e0 g hl)))
  | some w9=>
   obtain ⟨u9,v9,z9⟩:=w9
   dsimp only
   generalize power' N (2*u9+v9) (2*u9+v9+v9+n) N=pw9
   refine W.bind (W.range (D:=λ c b2=>c.1=none/\∃ rs2:List (List Nat),b2.p.toList=rs2.flatten++(r++DS (lo+n) (N - lo - n))/\Gd O 0 rs2 b2.pd.toList/\rs2.flatten.length=lo) (λ k c b2=>c.1=none/\∃ rs2:List (List Nat),b2.p.toList=rs2.flatten++(r++DS (lo+n) (N - lo - n))/\Gd O 0 rs2 b2.pd.toList/\rs2.flatten.length=lo) ⟨rfl,rs,e0,g,hl⟩ ?_ ?_ |>.mono λ c b2 hc=>?_)
   ·rintro x k ⟨r2,u2⟩ b2 ⟨er,rs2,e2,g2,l2⟩
    dsimp only at er
    subst er
    refine W.bind (W.get ?_)
    have hp:pendingOf (Ab.st O b2)=b2.pd:=rfl
    simp only [hp]
    have hps:b2.pd.size=rs2.length:=by rw [g2.len]; simp
    cases ho:(if b2.pd.size > 1 then b2.pd[b2.pd.size - 2]? else none) with
    | none=>exact W.pure ⟨rfl,rs2,e2,g2,l2⟩
    | some w8=>
     obtain ⟨u8,v8,z8⟩:=w8
     dsimp only
     have hgt:b2.pd.size > 1:=by
      by_cases q:b2.pd.size > 1
      ·exact q
      ·rw [if_neg q] at ho; cases ho
     refine W.ite (λ _=>W.pure ⟨rfl,rs2,e2,g2,l2⟩) (λ _=>?_)
     refine W.bind (merge rs2 _ b2 _ e2 g2 hsuf (by lia) (by lia) _ λ rs3 b3 e3 g3 l3 k3=>?_)
     simp only [Gb,Dh,if_false]
     exact W.pure ⟨rfl,rs3,e3,g3,by lia⟩
   ·rintro ⟨r2,u2⟩ b2 hc
    exact hc
   ·obtain ⟨r2,u2⟩:=c
    obtain ⟨er,rs2,e2,g2,l2⟩:=hc
    dsimp only at er ⊢
    subst er
    dsimp only
    have g3:Gd O 0 rs2 (b2.pd.modify (b2.pd.size - 1) λ x=>(x.1,x.2.1,pw9)).toList:=by
     rw [Jy]
     exact g2.pow (f:=λ x=>(x.1,x.2.1,pw9)) (λ d=>⟨rfl,rfl⟩) _
    refine W.bind (W.modify { b2 with pd:=b2.pd.modify (b2.pd.size - 1) λ x=>(x.1,x.2.1,pw9) } rfl ?_)
    exact W.bind (W.modify { b2 with pd:=(b2.pd.modify (b2.pd.size - 1) λ x=>(x.1,x.2.1,pw9)).push (lo,n,0) } rfl (W.pure (fin rs2 { b2 with pd:=b2.pd.modify (b2.pd.size - 1) λ x=>(x.1,x.2.1,pw9) } e2 g3 l2)))
end
end L2
namespace HT
open PySem PyProof.Rows PySem.W L2
theorem xG {prog:Program} {w:World} {A:Around} {E:Value->Shared->Prop} {s:Shared} {κ:SortKind} {lt:Nat->Nat->Bool} {ks vs:List Value} {I:Shared->Prop} (hl:ks.length=vs.length) (h2:2<=vs.length) (H:Lt lt) (hI:I s)
  (hc:∀ i j s',i<vs.length->j<vs.length->I s'->wpAny (model prog w) A (keyLt' κ (ks.getD i D8) (ks.getD j D8)) (λ b s''=>b=lt i j/\I s'') (λ _ _=>False) s') :
  wpAny (model prog w) A ((sortRuns').run (E4 κ (ks.toArray.zip vs.toArray) #[] 7 none))
   (λ r s'=>∃ p:Array Nat,arrOf r.2=p.map (kas_item (ks.toArray.zip vs.toArray))/\failedOf r.2=none/\p.size=vs.length/\I s'/\p.toList.Perm (C9 vs.length)/\p.toList.Pairwise (Ah lt)) E s:=by
 have hc':∀ i j s',i<vs.length->j<vs.length->I s'->kas_cmp prog w A κ (ks.toArray.zip vs.toArray) i j (λ b s''=>b=lt i j/\I s'') s':=λ i j s' hi hj hs=>by
  have:=hc i j s' hi hj hs
  rw [<-kat_ask_eq (prog:=prog) (w:=w) (A:=A) (κ:=κ) hl]
  exact this
 have run:=W.runs (O:=⟨prog,w,A,E,κ,ks.toArray.zip vs.toArray,vs.length,lt,I,hc'⟩) (N:=vs.length) (Q:=λ _ b'=>b'.p.toList.Perm (C9 vs.length)/\b'.p.toList.Pairwise (Ah lt)) H rfl h2 (λ b' h1 h2=>⟨h1,h2⟩) s hI
 have est:E4 κ (ks.toArray.zip vs.toArray) #[] 7 none=Ab.st ⟨prog,w,A,E,κ,ks.toArray.zip vs.toArray,vs.length,lt,I,hc'⟩ ⟨DA (C9 vs.length),#[],7⟩:=by
  have e:=kas_range (ks.toArray.zip vs.toArray)
  rw [show (ks.toArray.zip vs.toArray).size=vs.length by simp [hl]] at e
  show E4 κ (ks.toArray.zip vs.toArray) #[] 7 none=E4 κ ((DA (C9 vs.length)).map (kas_item (ks.toArray.zip vs.toArray))) #[] 7 none
  rw [e]
 rw [est]
 refine wpAny_mono run (λ r s' hr=>?_) λ _ _ z=>z
 obtain ⟨hi,b',eb,p1,p2⟩:=hr
 obtain ⟨u,st⟩:=r
 have eb:st=Ab.st _ b':=eb
 subst eb
 exact ⟨b'.p,rfl,rfl,by rw [<-DT,p1.length_eq,DR],hi,p1,p2⟩
section
variable {prog:Program} {w:World} {A:Around} {E:Value->Shared->Prop} {s:Shared}
theorem uK {R:Nat->Nat->Prop} (n:Nat) (h:n<2):(C9 n).Pairwise R:=by
 match n,h with
 | 0,_=>exact .nil
 | 1,_=>exact Ga _ _
theorem gD {vs:List Value} {κ:SortKind} {lt:Nat->Nat->Bool} {P:JL->Shared->Prop} (ho:s.heap.get? a=some (seqObj "list" vs.toArray n)) (h64:vs.length<1000) (H:Lt lt)
  (hk:∀ h' (Q:SortKind->Shared->Prop),2<=vs.length->(∀ b o,b≠a->s.heap.get? b=some o->h'.get? b=some o)->Q κ { s with heap:=h' }->wpAny (model prog w) A (keyKind' vs.toArray) Q (λ _ _=>False) { s with heap:=h' })
  (hc:∀ h' i j (Q:Bool->Shared->Prop),i<vs.length->j<vs.length->(∀ b o,b≠a->s.heap.get? b=some o->h'.get? b=some o)->Q (lt i j) { s with heap:=h' }->
   wpAny (model prog w) A (keyLt' κ (vs.getD i D8) (vs.getD j D8)) Q (λ _ _=>False) { s with heap:=h' })
  (h:∀ p:List Nat,p.Perm (C9 vs.length)->p.Pairwise (Ah lt)->P (.done (.ret .none)) { s with heap:=sortedHeap s.heap a vs (DA (p.map λ i=>vs.getD i D8)) }) :
  wpAny (model prog w) A (Builtin.«list.sort» ⟨[.ref a],[]⟩) P E s:=by
 rw [list_sort_plain]
 have ha:a<s.heap.objs.size:=Dp ho
 refine wpAny_bind (listItems_at ho rfl ?_)
 refine wpAny_bind (listUpdate_at ho rfl ?_ (by rw [Dm,sizeLine_eq]; lia) (Du _))
 obtain ⟨e1,ho1⟩:∃ e1,(s.heap.update a (Eu λ _=>(#[]:Array Value))).get? a=some (seqObj "list" #[] e1):=⟨_,get?_update_seq ho (λ _=>#[])⟩
 refine wpAny_bind (seqEpoch_at ho1 rfl ?_)
 refine wpAny_bind (wpAny_newTuple ?_ (by show vs.length<=_; rw [sizeLine_eq]; lia))
 refine wpAny_bind (wpAny_newList ?_ (Du _))
 refine wpAny_holding ?_
 have ho6:(((s.heap.update a (Eu λ _=>(#[]:Array Value))).push (seqObj "tuple" vs.toArray 0)).push (seqObj "list" #[] 0)).get? a=some (seqObj "list" #[] e1):=by
  rw [FH _ _ _ (by rw [size_push',Gz]; exact Dw (FI ha)),FH _ _ _ (by rw [Gz]; exact Dw ha)]
  exact ho1
 have kp:∀ b o,b≠a->s.heap.get? b=some o->(((s.heap.update a (Eu λ _=>(#[]:Array Value))).push (seqObj "tuple" vs.toArray 0)).push (seqObj "list" #[] 0)).get? b=some o:=λ b o hb e=>by
  have hlt:=Dp e
  rw [FH _ _ _ (by rw [size_push',Gz]; exact Dw (FI hlt)),FH _ _ _ (by rw [Gz]; exact Dw hlt),Jz _ _ _ _ hb]
  exact e
 show wpAny (model prog w) A _ P E { s with heap:=((s.heap.update a (Eu λ _=>(#[]:Array Value))).push (seqObj "tuple" vs.toArray 0)).push (seqObj "list" #[] 0) }
 dsimp only
 have hsz:vs.toArray.size=vs.length:=by simp
 by_cases h2:vs.toArray.size<2
 ·rw [if_pos h2,if_pos h2]
  refine wpAny_bind (wpAny_pure ?_)
  rw [StateT.run_pure]
  refine wpAny_bind (wpAny_pure ?_)
  dsimp only
  refine wpAny_bind (seqEpoch_at ho6 rfl ?_)
  refine wpAny_bind (listUpdate_at ho6 rfl ?_ (Du _) (by rw [Hi]; show (pairsOf vs).size<=_; rw [pairsOf_size,sizeLine_eq]; lia))
  simp only [bne_self_eq_false,Dh,if_false]
  have:=h (C9 vs.length) (D0 _) (uK _ (by lia))
  have eo:(arrOf (E4 general' (vs.toArray.zip vs.toArray) #[] 7 none)).map (·.2)=DA ((C9 vs.length).map λ i=>vs.getD i D8):=by
   have e:=kas_range (vs.toArray.zip vs.toArray)
   rw [show (vs.toArray.zip vs.toArray).size=vs.length by simp] at e
   have:=kat_snds (st:=E4 general' (vs.toArray.zip vs.toArray) #[] 7 none) (ks:=vs) (vs:=vs) rfl e.symm
   simpa using this
  rw [<-eo] at this
  exact wpAny_pure this
 ·rw [if_neg h2,if_neg h2]
  refine wpAny_bind (wpAny_mono (hk _ (λ κ' s'=>κ'=κ/\s'={ s with heap:=((s.heap.update a (Eu λ _=>(#[]:Array Value))).push (seqObj "tuple" vs.toArray 0)).push (seqObj "list" #[] 0) }) (by lia) kp ⟨rfl,rfl⟩) (λ κ' s' hh=>?_) λ _ _ x=>x.elim)
  obtain ⟨rfl,rfl⟩:=hh
  refine wpAny_bind (wpAny_mono (xG (ks:=vs) (I:=λ s'=>s'={ s with heap:=((s.heap.update a (Eu λ _=>(#[]:Array Value))).push (seqObj "tuple" vs.toArray 0)).push (seqObj "list" #[] 0) }) rfl (by lia) H rfl (λ i j s' hi hj es=>by subst es; exact hc _ i j _ hi hj kp ⟨rfl,rfl⟩)) ?_ λ _ _ e=>e)
  rintro ⟨⟨⟩,st'⟩ s' ⟨p,har,hf,hp,rfl,q1,q2⟩
  dsimp only
  have hout:=kat_snds rfl har
  rw [hout]
  refine wpAny_bind (seqEpoch_at ho6 rfl ?_)
  refine wpAny_bind (listUpdate_at ho6 rfl ?_ (Du _) (by rw [Dm,C6,DT,hp,sizeLine_eq]; lia))
  rw [hf]
  simp only [bne_self_eq_false,Dh,if_false]
  exact wpAny_pure (h p.toList q1 q2)
theorem ko {l:Addr} {vs:List Value} {κ:SortKind} {lt:Nat->Nat->Bool} (hl:s.heap.IsList l vs.toArray) (h64:vs.length<1000) (H:Lt lt)
  (hk:∀ h' (Q:SortKind->Shared->Prop),2<=vs.length->(∀ b o,s.heap.get? b=some o->h'.get? b=some o)->Q κ { s with heap:=h' }->wpAny (model prog w) A.in1.in1 (keyKind' vs.toArray) Q (λ _ _=>False) { s with heap:=h' })
  (hc:∀ h' i j (Q:Bool->Shared->Prop),i<vs.length->j<vs.length->(∀ b o,s.heap.get? b=some o->h'.get? b=some o)->Q (lt i j) { s with heap:=h' }->
   wpAny (model prog w) A.in1.in1 (keyLt' κ (vs.getD i D8) (vs.getD j D8)) Q (λ _ _=>False) { s with heap:=h' })
  (h:∀ p:List Nat,p.Perm (C9 vs.length)->p.Pairwise (Ah lt)->Q (.ref (s.heap.objs.size+1)) { s with heap:=sortedAll s.heap vs (DA (p.map λ i=>vs.getD i D8)) }) :
  wpAny (model prog w) A (call (.builtin "sorted") [.ref l]) Q E s:=by
 refine Iq kind_sorted plain_sorted entry_sorted (args_sorted1 _) ?_
 unfold Builtin.«sorted»
 refine wpAny_bind (m:=checkCount "sorted" 1 1 _) (wpAny_pure ?_)
 refine wpAny_bind (collect_list hl ?_ (by rw [sizeLine_eq]; lia))
 refine wpAny_bind (wpAny_newList ?_ (by rw [sizeLine_eq]; lia))
 have hsz:((s.heap.push (seqObj "list" #[] 0)).update s.heap.objs.size (Eu (·++vs.toArray))).objs.size=s.heap.objs.size+1:=by
  rw [Gz,size_push']
 have hoL:(((s.heap.push (seqObj "list" #[] 0)).update s.heap.objs.size (Eu (·++vs.toArray))).push (seqObj "list" vs.toArray 0)).get? (s.heap.objs.size+1)=some (seqObj "list" vs.toArray 0):=by
  rw [<-hsz]; exact DB _ rfl
 have keep:∀ b o,s.heap.get? b=some o->(((s.heap.push (seqObj "list" #[] 0)).update s.heap.objs.size (Eu (·++vs.toArray))).push (seqObj "list" vs.toArray 0)).get? b=some o:=λ b o q=>by
  have hlt:b<s.heap.objs.size:=Dp q
  rw [FH _ _ _ (by rw [hsz]; exact Dw (FI hlt)),Jz _ _ _ _ (Dw hlt),FH _ _ _ (Dw hlt)]
  exact q
 have ne:∀ b o,s.heap.get? b=some o->b≠s.heap.objs.size+1:=λ b o q=>Dw (FI (Dp q))
 show wpAny _ _ _ _ _ { s with heap:=((s.heap.push (seqObj "list" #[] 0)).update s.heap.objs.size (Eu (·++vs.toArray))).push (seqObj "list" vs.toArray 0) }
 rw [hsz]
 refine wpAny_bind (wpAny_holding (wpAny_call_entry slot_list_sort ⟨_,hoL,rfl⟩ entry_list_sort (gD hoL h64 H
  (λ h' Q' h2 k q=>hk h' Q' h2 (λ b o e=>k b o (ne b o e) (keep b o e)) q) (λ h' i j Q' hi hj k q=>hc h' i j Q' hi hj (λ b o e=>k b o (ne b o e) (keep b o e)) q) λ p a1 a2=>⟨_,rfl,?_⟩) (args_list_sort _)))
 exact wpAny_pure ⟨_,rfl,h p a1 a2⟩
theorem oi {fin:Bool} {Q:Bool->Shared->Prop}:∀ {xs ys:List Value} {ns ms:List Int},IntsAre xs ns->IntsAre ys ms->∀ (i:Nat) (b:Bool),fin=decide (ns.length<ms.length)->Q (cC ns ms) s->
  KatLex prog w A b fin Q (xs.zip ys) i s
 | _,_,_,_,.nil,.nil,i,b,e,h=>by subst e; exact h
 | _,_,_,_,.nil,.cons m u r,i,b,e,h=>by
  subst e; rw [JU]; refine kat_nil ?_; simpa using (show Q true s from h)
 | _,_,_,_,.cons n t r,.nil,i,b,e,h=>by
  subst e; rw [JH]; refine kat_nil ?_; simpa using (show Q false s from h)
 | _,_,_,_,.cons n t r,.cons m u r',i,b,e,h=>by
  rw [Hr]
  refine kat_cons (wpAny_eqBool_int ?_)
  rw [dz] at h
  by_cases hn:n=m
  ·rw [if_pos hn] at h
   rw [show (n == m)=true by simp [hn]]
   exact kat_yes (oi r r' (i+1) b (by rw [e]; simp) h)
  ·rw [if_neg hn] at h
   rw [show (n == m)=false by simp [hn]]
   refine kat_no ?_
   cases (b && i == 0) with
   | true=>exact oneLt_int h
   | false=>exact kat_one _ _ (lt_int h)
theorem uL {x y:Addr} {its its2:Array Value} {ns ms:List Int} {b:Bool} {Q:Bool->Shared->Prop} (hx:IsTup s.heap x its) (hy:IsTup s.heap y its2) (hi:IntsAre its.toList ns) (hj:IntsAre its2.toList ms) (h:Q (cC ns ms) s) :
  wpAny (model prog w) A (keyLt' (tuples' b) (.ref x) (.ref y)) Q E s:=by
 obtain ⟨o,ho,hc,n,hd⟩:=id hx
 obtain ⟨o2,ho2,hc2,n2,hd2⟩:=id hy
 refine kat_lt ho hd ho2 hd2 (oi hi hj 0 b ?_ h)
 rw [<-hi.length,<-hj.length]; simp
theorem xH {x y:Addr} {its its2:Array Value} {ns ms:List Int} {Q:Bool->Shared->Prop} (hu:A.units<cLine) (hx:IsTup s.heap x its) (hy:IsTup s.heap y its2) (hi:IntsAre its.toList ns) (hj:IntsAre its2.toList ms) (h:Q (cC ns ms) s) :
  wpAny (model prog w) A (keyLt' oneType' (.ref x) (.ref y)) Q E s:=by
 obtain ⟨⟨cls,dd,data,sl⟩,ho,hc,n,hd⟩:=id hx
 obtain ⟨⟨cls2,dd2,data2,sl2⟩,ho2,hc2,n2,hd2⟩:=id hy
 simp only at hc hd hc2 hd2
 subst hc hd hc2 hd2
 rw [keyLt'_oneType,oneLt'_eq]
 simp only [if_true]
 refine wpAny_bind (wpAny_cRoomFor hu ?_)
 refine wpAny_bind (wpAny_callSpecialIfBound?_slot (T:="tuple") ⟨_,ho,rfl⟩ Jj (call_meets Jj ⟨_,ho,rfl⟩ PySem.F.entry_tuple_lt (PySem.F.args_tuple_lt_2 _ _) (kH x y its its2 n n2 dd dd2 sl sl2 ns ms hi hj) ⟨ho,ho2,?_⟩))
 exact wpAny_truthy_bool h
theorem uM {vs:List Value} {Q:SortKind->Shared->Prop} (h2:2<=vs.length) (ht:∀ v∈vs,∃ a,v=.ref a/\IsTup s.heap a #[]) (h:Q oneType' s) :
  wpAny (model prog w) A (keyKind' vs.toArray) Q E s:=by
 obtain ⟨v₁,rest,rfl⟩:∃ v₁ rest,vs=v₁::rest:=by
  match vs,h2 with
  | v₁::rest,_=>exact ⟨v₁,rest,rfl⟩
 rw [kat_kind_eq,J0,map_eq_pure_bind]
 refine wpAny_bind (wpAny_bind (kas_mapM (r:=none) _ (λ v hv Q' hq=>?_) (wpAny_pure ?_)))
 ·obtain ⟨a,rfl,o,ho,hc,n,hd⟩:=ht v hv
  rw [kas_first_eq]
  refine wpAny_bind (Looks.here (show Looks (model prog w) s.heap (typeOf (.ref a)) o.cls from (Looks.ld ho).andThen .now) ?_)
  rw [hc,if_neg (by first | decide | simp)]
  refine wpAny_bind (listItems_at ho hd (wpAny_pure ?_))
  exact hq
 ·rw [if_neg (by simp),if_neg (by simp)]
  rw [oneTypeOnly'_eq,J0,map_eq_pure_bind]
  refine wpAny_bind (wpAny_bind (wpAny_bind (kas_mapM (r:=EK "tuple") _ (λ v hv Q' hq=>?_) (wpAny_pure ?_))))
  ·obtain ⟨a,rfl,o,ho,hc,n,hd⟩:=ht v hv
   refine Looks.here (show Looks (model prog w) s.heap (typeOf (.ref a)) (EK "tuple") from ?_) hq
   rw [<-hc]
   exact (Looks.ld ho).andThen .now
  ·have hall:((Ks (λ _=>EK "tuple") (v₁::rest)).toArray.all λ x=>x == EK "tuple")=true:=by
    simp only [List.all_toArray,List.all_map,Kn]
    intro _ _
    rfl
   have h0:(Ks (λ _=>EK "tuple") (v₁::rest)).toArray[0]? = some (EK "tuple"):=by simp
   rw [h0]
   simp only [hall,if_true]
   exact wpAny_pure (wpAny_pure h)
theorem rm:∀ {vs:List Value} {rss:List (List Int)},vs.length=rss.length->(∀ (i:Nat) v r,vs[i]? = some v->rss[i]? = some r->∃ a its,v=.ref a/\IsTup s.heap a its/\IntsAre its.toList r)->(∀ r∈rss,r≠[])->
  ∃ fs,KatTups s.heap vs fs/\fs.length=vs.length/\∀ f∈fs,∃ n t,f=Hn n t
 | [],[],_,_,_=>⟨[],.nil,rfl,λ _ h=>nomatch h⟩
 | v::vs,r::rss,hl,h,hne=>by
  obtain ⟨fs,k1,k2,k3⟩:=rm (vs:=vs) (rss:=rss) (by simpa using hl) (λ i v r e1 e2=>h (i+1) v r (by simpa using e1) (by simpa using e2)) λ r hr=>hne r (.tail _ hr)
  obtain ⟨a,its,rfl,⟨o,ho,hc,n,hd⟩,hi⟩:=h 0 v r rfl rfl
  have hr:=hne r (.head _)
  obtain ⟨its'⟩:=its
  cases hi with
  | nil=>exact absurd rfl hr
  | cons m t hi'=>exact ⟨_::fs,KatTups.cons (f:=.int m t) ho hc hd (by simp) k1,by simp [k2],λ f hf=>(Dx.mp hf).elim (λ e=>⟨m,t,e⟩) (k3 f)⟩
theorem rn {vs:List Value} {rss:List (List Int)} {Q:SortKind->Shared->Prop} (h2:2<=vs.length) (hl:vs.length=rss.length) (ht:∀ (i:Nat) v r,vs[i]? = some v->rss[i]? = some r->∃ a its,v=.ref a/\IsTup s.heap a its/\IntsAre its.toList r) (hne:∀ r∈rss,r≠[])
  (h:Q (tuples' true) s):wpAny (model prog w) A (keyKind' vs.toArray) Q E s:=by
 obtain ⟨fs,k1,k2,k3⟩:=rm hl ht hne
 refine kat_kind (T:=EK "int") k1 (by lia) (λ v hv=>?_) rfl h
 obtain ⟨n,t,rfl⟩:=k3 v hv
 exact Looks.of_pure rfl
end
theorem pA (a:List Int):∀ b,cC a b=true->cC b a=false:=by
 induction a with
 | nil=>intro b h; cases b<;>first | rfl | cases h
 | cons x xs ih=>
  intro b h
  cases b with
  | nil=>cases h
  | cons y ys=>
   rw [dz] at h ⊢
   by_cases e:x=y
   ·rw [if_pos e] at h; rw [if_pos e.symm]; exact ih ys h
   ·rw [if_neg e] at h; rw [if_neg (DX e)]
    have:=of_decide_eq_true h
    exact decide_eq_false (by lia)
theorem rp (a:List Int):∀ b c,cC a b=false->cC b c=false->cC a c=false:=by
 induction a with
 | nil=>
  intro b c h1 h2
  cases b with
  | nil=>exact h2
  | cons y ys=>cases h1
 | cons x xs ih=>
  intro b c h1 h2
  cases c with
  | nil=>rfl
  | cons z zs=>
   cases b with
   | nil=>cases h2
   | cons y ys=>
    rw [dz] at h1 h2 ⊢
    by_cases e:x=y
    ·subst e
     rw [if_pos rfl] at h1
     by_cases e2:x=z
     ·subst e2; rw [if_pos rfl] at h2 ⊢; exact ih ys zs h1 h2
     ·rw [if_neg e2] at h2 ⊢; exact h2
    ·rw [if_neg e] at h1
     have h1:=of_decide_eq_false h1
     by_cases e2:y=z
     ·subst e2; rw [if_neg e]; exact decide_eq_false h1
     ·rw [if_neg e2] at h2
      have h2:=of_decide_eq_false h2
      rw [if_neg (by lia)]; exact decide_eq_false (by lia)
theorem vF (rss:List (List Int)):Lt (λ i j=>cC (rss.getD i []) (rss.getD j [])):=⟨λ i j h=>pA _ _ h,λ i j k h1 h2=>rp _ _ _ h1 h2⟩
end HT
namespace L2
open PySem PySem.Spec PyProof.Rows PySem.W
section
variable {X:Cx}
theorem mn:∀ {rs:List Addr} {us:List Value},Vals (rs.map MU) us->us=rs.map D5
 | [],_,.nil=>rfl
 | _::_,_,.cons r t=>by
  rw [Er,<-mn t]
  cases r
  rfl
theorem lh {f:Nat->V} {g:Nat->Value}:∀ {p:List Nat},(∀ i∈p,RelV (f i) (g i))->Vals (p.map f) (p.map g)
 | [],_=>.nil
 | i::p,h=>.cons (h i (.head _)) (lh λ j hj=>h j (.tail _ hj))
def rq (K:C7):List V->Hp->VK->Prop:=λ xs H Q=>∃ (l:Addr) (rs:List Addr) (rss:List (List Int)),xs=[.ref l]/\SqL K H l (rs.map MU)/\rs.length=rss.length/\rs.length<1000/\
 (∀ (i:Nat) a r,rs[i]? = some a->rss[i]? = some r->SqT K H a (r.map MS))/\((∀ r∈rss,r=[])\/(∀ r∈rss,r≠[]))/\
 ∀ (d:Addr) (p:List Nat),H d=none->p.Perm (C9 rs.length)->p.Pairwise (Ah λ i j=>HT.cC (rss.getD i []) (rss.getD j []))->Q (.ref d) (upd H d (.lst (p.map λ i=>.ref (rs.getD i 0))))
theorem pB (hu:X.A.in1.in1.units<cLine):dh X (.builtin "sorted") (rq X.K):=by
 intro pins s σ H xs us Q I r h
 obtain ⟨l,rs,rss,rfl,hq,hlen,h64,ht,hw,q⟩:=h
 obtain ⟨u,rfl,rx⟩:=kE r
 cases rx
 obtain ⟨its,r',pl,hz⟩:=I.list hq
 obtain rfl:=mn r'
 have hl:(rs.map D5).length=rs.length:=C6 _
 have tup:∀ (h':Heap),(∀ b o,s.heap.get? b=some o->h'.get? b=some o)->∀ (i:Nat) v r,(rs.map D5)[i]? = some v->rss[i]? = some r->∃ a its,v=.ref a/\IsTup h' a its/\IntsAre its.toList r:=λ h' k i v r e1 e2=>by
  rw [De] at e1
  obtain ⟨a,ea,rfl⟩:=EI.mp e1
  obtain ⟨its,r1,⟨o,ho,hc⟩,_⟩:=I.tuple (ht i a r ea e2)
  exact ⟨a,its.toArray,rfl,⟨o,k _ _ ho,hc⟩,kf r1⟩
 have get:∀ i,i<(rs.map D5).length->(rs.map D5)[i]? = some ((rs.map D5).getD i D8)/\rss[i]? = some (rss.getD i []):=λ i hi=>by
  have h2:i<rss.length:=by lia
  constructor
  ·rw [C5,C4 hi]; rfl
  ·rw [C5,C4 h2]; rfl
 have fin:∀ p:List Nat,p.Perm (C9 (rs.map D5).length)->p.Pairwise (Ah λ i j=>HT.cC (rss.getD i []) (rss.getD j []))->
   EP X pins σ Q (.ref (s.heap.objs.size+1)) { s with heap:=sortedAll s.heap (rs.map D5) (DA (p.map λ i=>(rs.map D5).getD i D8)) }:=λ p hp hs=>by
  obtain ⟨c,hc⟩:=sortedAll_at s.heap (rs.map D5) (DA (p.map λ i=>(rs.map D5).getD i D8))
  have hpl:=hp.length_eq
  rw [DR,hl] at hpl
  rw [hl] at hp
  refine ⟨.ref (s.heap.objs.size+1),_,I.laid (t':=s.toks) (λ b o e=>sortedAll_old e) (FO _) (show ObjOk X.prog X.w _ _ _ (.lst (p.map λ i=>.ref (rs.getD i 0))) from ⟨?_,_,c,lh λ i hi=>?_,hc⟩),rfl,q _ p (I.hok.fresh (FO _)) hp hs⟩
  ·rw [C6,hpl,sizeLine_eq]; lia
  ·have hi':i<rs.length:=DN.mp (hp.mem_iff.mp hi)
   rw [C5,C5,De,C4 hi']
   rfl
 rcases hw with hw | hw
 ·refine HT.ko (κ:=oneType') pl.isList (by lia) (HT.vF rss) (λ h' Q' h2 k hQ=>HT.uM h2 (λ v hv=>?_) hQ) (λ h' i j Q' hi hj k hQ=>?_) fin
  ·obtain ⟨i,hi,ei⟩:=Eh hv
   obtain ⟨g1,g2⟩:=get i hi
   obtain ⟨a,its,rfl,t,ti⟩:=tup h' k i v _ (by rw [C4 hi,ei]) g2
   rw [hw _ (Ek g2)] at ti
   obtain ⟨its'⟩:=its
   cases ti
   exact ⟨a,rfl,t⟩
  ·obtain ⟨g1,g2⟩:=get i hi
   obtain ⟨k1,k2⟩:=get j hj
   obtain ⟨a,its,e,t,ti⟩:=tup h' k i _ _ g1 g2
   obtain ⟨a',its',e',t',ti'⟩:=tup h' k j _ _ k1 k2
   rw [e,e']
   exact HT.xH hu t t' ti ti' hQ
 ·refine HT.ko (κ:=tuples' true) pl.isList (by lia) (HT.vF rss) (λ h' Q' h2 k hQ=>HT.rn h2 (by lia) (tup h' k) hw hQ) (λ h' i j Q' hi hj k hQ=>?_) fin
  obtain ⟨g1,g2⟩:=get i hi
  obtain ⟨k1,k2⟩:=get j hj
  obtain ⟨a,its,e,t,ti⟩:=tup h' k i _ _ g1 g2
  obtain ⟨a',its',e',t',ti'⟩:=tup h' k j _ _ k1 k2
  rw [e,e']
  exact HT.uL t t' ti ti' hQ
end
section
variable {X:Cx}
theorem uN {K:C7} (hu:X.A.units+64<cLine) (hK:X.K=K:=by rfl):QC X (.builtin "sorted") (rq K):=by
 subst hK
 exact ⟨pB (show X.A.units+1+1<cLine by lia)⟩
end
end L2
namespace HT
open PySem PyProof.Rows PySem.W L2
section
variable {prog:Program} {w:World} {A:Around} {E:Value->Shared->Prop} {s:Shared}
end
theorem xI (ns:List Int):Lt (λ i j=>decide (ns.getD i 0<ns.getD j 0)):=⟨λ i j h=>by
 have:=of_decide_eq_true h
 exact decide_eq_false (by lia),λ i j k h1 h2=>by
 have a:=of_decide_eq_false h1
 have b:=of_decide_eq_false h2
 exact decide_eq_false (by lia)⟩
theorem na {vs:List Value} {ns:List Int} (h:IntsAre vs ns):∀ {i:Nat},i<vs.length->∃ t,vs.getD i D8=.int (ns.getD i 0) t:=by
 induction h with
 | nil=>intro i hi; cases hi
 | cons n t h ih=>
  intro i hi
  cases i with
  | zero=>exact ⟨t,rfl⟩
  | succ i=>
   obtain ⟨t',e⟩:=ih (i:=i) (by simpa using hi)
   exact ⟨t',by simpa using e⟩
end HT
namespace L2
open PySem PySem.Spec PyProof.Rows PySem.W
theorem oj {α:Type} (xs:List α) (d:α):(C9 xs.length).map (λ i=>xs.getD i d)=xs:=by
 apply Fv
 ·simp
 ·intro i h1 h2
  simp [h2]
section
variable {X:Cx}
end
end L2
namespace L2
open PySem PySem.Spec PyProof.Rows
section
variable {X:Cx} {pins:List (Addr×Obj)} {σ:St} {H:Hp} {s:Shared}
end
section
variable {κ:Type} [DecidableEq κ]
end
section
variable {P:Program} {w:World} {H:Hp} {h:Heap} {a:Addr}
end
section
variable {X:Cx} {pins:List (Addr×Obj)} {σ:St} {H:Hp} {s:Shared} {a:Addr} {y v:V} {u r:Value} {o:Option V} {A:Around} {E:Value->Shared->Prop}
end
section
variable {X:Cx} {pins:List (Addr×Obj)} {σ:St} {H:Hp} {s:Shared} {a:Addr} {kvs:List (Key×V)} {k:Key} {u:Value} {A:Around} {E:Value->Shared->Prop}
end
section
variable {X:Cx} {o i e value:Expr} {pos pos' tpos:Pos} {td ty tv:TE}
end
section
variable {X:Cx} {pos:Pos}
end
section
variable {X:Cx} {pins:List (Addr×Obj)} {σ:St} {H:Hp} {s:Shared} {a:Addr} {y d:V} {u r:Value} {o:Option V} {A:Around} {E:Value->Shared->Prop}
end
section
variable {X:Cx} {o e f:Expr} {apos cpos:Pos} {td ty tx:TE}
end
section
variable {X:Cx} {pins:List (Addr×Obj)} {σ:St} {H:Hp} {s:Shared} {a:Addr} {kvs:List (Key×V)} {A:Around} {E:Value->Shared->Prop}
end
section
variable {X:Cx} {pins:List (Addr×Obj)} {σ:St} {H:Hp} {s:Shared} {a:Addr} {y:V} {u:Value} {A:Around} {E:Value->Shared->Prop}
end
section
variable {X:Cx} {o i value:Expr} {td ty tv:TE} {pos pos':Pos}
end
noncomputable def itN (os:List Nat):Nat->Nat->Nat
 | 0,i=>i
 | k+1,i=>os.getD (itN os k i) 0
def Rb (os:List Nat) (i j:Nat):Prop:=∃ k,j=itN os k i
noncomputable def sm (f:Nat->Nat):Nat->Nat
 | 0=>0
 | n+1=>sm f n+f n
noncomputable def wt (os:List Nat) (j:Nat):Nat:=if os.getD j 0=j then 0 else 1
def BO (os:List Nat) (i j:Nat):Prop:=wt os j=1/\∃ a,a<i/\Rb os a j
open Classical in
noncomputable def sx (os:List Nat) (i j:Nat):Nat:=if BO os i j then 1 else 0
theorem gE {os:List Nat} (h:∀ o∈os,o<b) (hf:b<=f):os.count f=0:=GG.mpr λ z=>by have:=h f z; lia
theorem uO {os:List Nat} (h:∀ o∈os,o<b) (hb:b<=B):cnt os B=cnt os b++DC (B - b) 0:=by
 apply Gn
 intro i
 by_cases h1:i<b
 ·rw [Do (by rw [aS]; exact h1),bU h1,bU (by lia)]
 ·rw [Dy (by rw [aS]; lia),aS,GK]
  by_cases h2:i<B
  ·rw [bU h2,if_pos (by lia),gE h (by lia)]
  ·rw [if_neg (by lia),Ea (by rw [aS]; lia)]
theorem rA {os:List Nat} (h:∀ o∈os,o<b) (hb:b<=B):iU (cnt os B)=iU (cnt os b):=by
 rw [uO h hb]; unfold iU
 have e:(DC (B - b) 0).filter (λ m=>decide (0<m))=[]:=Fx.mpr λ a ha=>by rw [List.eq_of_mem_replicate ha]; simp
 rw [ES,e,Ef]
theorem nc {os:List Nat} (h:∀ o∈os,o<b) (hb:b<=B):bD (cnt os B)=bD (cnt os b):=by unfold bD; rw [rA h hb]
noncomputable def act (C:Nat) (s:ce):Bool:=decide (s.1+2<=s.2.1) && decide (s.2.2<C)
theorem om (f c b:Nat) (row:List Nat):aF f (cnt row b) c=(C9 b).map λ g=>(f+ai row g,f+ai row (g+1),c):=by
 unfold aF
 rw [aS]
 apply Ep
 intro g hg
 have hg:=DN.mp hg
 rw [bh row b g (by lia),aM,C5,bU hg,Gc]; rfl
theorem pC {os:List Nat} {C:Nat} (h:∀ o∈os,o<b) (hb:b<=B):(aF f (cnt os B) c).filter (act C)=(aF f (cnt os b) c).filter (act C):=by
 rw [om,om]
 have e:C9 B=C9 b++(C9 (B - b)).map (λ i=>b+i):=by
  rw [<-List.range_add]; congr 1; lia
 rw [e,Dr,ES]
 refine Eq.trans ?_ (Ef _)
 congr 1
 rw [Fx]
 intro a ha
 obtain ⟨g,hg,rfl⟩:=DM.mp ha
 obtain ⟨i,_,rfl⟩:=DM.mp hg
 unfold act
 have:=aM os (b+i)
 rw [gE h (by lia)] at this
 simp only [Ey,decide_eq_true_eq,not_and]
 intro z; lia
noncomputable def gc (rss:List (List Nat)) (c:Nat) (os:List Nat):List Nat:=os.map λ p=>(fz rss c).getD p 0
theorem uP {x:Nat} (hx:x<b):(iU (cnt (DC m x) b)).length<=1:=by
 have e:iU (cnt (DC m x) b)=((C9 b).filter λ f=>decide (0<(DC m x).count f)).map λ f=>(DC m x).count f:=by
  unfold iU cnt; rw [KE]; rfl
 rw [e,C6]
 have e2:((C9 b).filter λ f=>decide (0<(DC m x).count f)).Sublist ((C9 b).filter λ f=>f == x):=by
  have e3:((C9 b).filter λ f=>decide (0<(DC m x).count f))=((C9 b).filter λ f=>f == x).filter λ f=>decide (0<(DC m x).count f):=by
   rw [List.filter_filter]
   apply List.filter_congr
   intro f _
   by_cases q:f=x
   ·subst q; simp
   ·rw [List.count_replicate,if_neg (by simp; exact λ z=>q z.symm)]; simp
  rw [e3]
  exact List.filter_sublist
 refine D9 e2.length_le ?_
 have:((C9 b).filter λ f=>f == x).length=(C9 b).count x:=by rw [<-Hj]; rfl
 rw [this]
 have h9:=List.nodup_iff_count (l:=C9 b) |>.mp GT x
 exact h9
theorem jY {x:Nat} (hx:x<b):bD (cnt (DC m x) b)=false:=by
 unfold bD
 exact decide_eq_false (by have:=uP (m:=m) hx; lia)
noncomputable def cH (os:List Nat) (f l:Nat):List Nat:=(os.drop f).take (l - f)
inductive Fst (rss:List (List Nat)) (C:Nat):List Nat->List ce->List ce->Prop where
 | start:Fst rss C (C9 rss.length) [] ([(0,rss.length,0)].filter (act C))
 | step {os ob:List Nat} {st us:List ce} {f l c:Nat}:Fst rss C os st (us++[(f,l,c)])->bD (cnt (gc rss c (cH os f l)) 64)=true->ByF (gc rss c (cH os f l)) ob->
   Fst rss C (os.take f++cmp (cH os f l) ob++os.drop l) (st++[(f,l,c)]) (us++((aF f (cnt (gc rss c (cH os f l)) 64) (c+1)).filter (act C)).reverse)
 | stay {os:List Nat} {st us:List ce} {f l c:Nat}:Fst rss C os st (us++[(f,l,c)])->bD (cnt (gc rss c (cH os f l)) 64)=false->
   Fst rss C os st (us++((aF f (cnt (gc rss c (cH os f l)) 64) (c+1)).filter (act C)).reverse)
theorem hZ {os:List Nat} (h:f<=l):os.take f++cH os f l++os.drop l=os:=by
 unfold cH
 have e1:os.drop l=(os.drop f).drop (l - f):=by rw [Hh]; congr 1; lia
 rw [e1,DH,DP,DP]
theorem Fst.inv {rss:List (List Nat)} {C:Nat} {os:List Nat} {st us:List ce} (h:Fst rss C os st us):os.Perm (C9 rss.length)/\∀ s∈us,s.1+2<=s.2.1/\s.2.1<=rss.length/\s.2.2<C:=by
 have pa:∀ {os:List Nat} {f l c:Nat},os.length=rss.length->f<=l->l<=rss.length->∀ s∈((aF f (cnt (gc rss c (cH os f l)) 64) (c+1)).filter (act C)).reverse,s.1+2<=s.2.1/\s.2.1<=rss.length/\s.2.2<C:=by
  intro os f l c hl h1 h2 s hs
  obtain ⟨hm,ha⟩:=Ee.mp (ET.mp hs)
  obtain ⟨g,_,rfl⟩:=cG hm
  unfold act at ha
  simp only [Ey,decide_eq_true_eq] at ha
  refine ⟨ha.1,?_,ha.2⟩
  have:=c9 (gc rss c (cH os f l)) (g+1)
  have e:(gc rss c (cH os f l)).length=l - f:=by unfold gc cH; rw [C6,Df,DU]; lia
  show f+ai _ (g+1)<=_
  lia
 induction h with
 | start=>
  refine ⟨D0 _,λ s hs=>?_⟩
  obtain ⟨hm,ha⟩:=Ee.mp hs
  unfold act at ha
  simp only [Ey,decide_eq_true_eq] at ha
  rw [Dk.mp hm] at ha ⊢
  exact ⟨ha.1,C8 _,ha.2⟩
 | @step os ob st us f l c _ hp hB ih=>
  obtain ⟨a1,a2⟩:=ih
  have a3:=a2 (f,l,c) (Dj _ (Dk.mpr rfl))
  have hl:os.length=rss.length:=by have:=a1.length_eq; simpa using this
  refine ⟨Fi ?_ a1,λ s hs=>?_⟩
  ·have e:=hZ (os:=os) (f:=f) (l:=l) (by have:=a3.1; dsimp only at this; lia)
   conv=>rhs; rw [<-e]
   refine IX _ (FB _ ?_)
   have hO:=hB.ord
   refine kX (os:=ob) (xs:=cH os f l) ?_
   have:(gc rss c (cH os f l)).length=(cH os f l).length:=by unfold gc; rw [C6]
   rw [this] at hO
   exact hO.perm
  ·rcases DG.mp hs with q | q
   ·exact a2 s (D3 _ q)
   ·exact pa hl (by have:=a3.1; dsimp only at this; lia) a3.2.1 s q
 | @stay os st us f l c _ hp ih=>
  obtain ⟨a1,a2⟩:=ih
  have a3:=a2 (f,l,c) (Dj _ (Dk.mpr rfl))
  have hl:os.length=rss.length:=by have:=a1.length_eq; simpa using this
  refine ⟨a1,λ s hs=>?_⟩
  rcases DG.mp hs with q | q
  ·exact a2 s (D3 _ q)
  ·exact pa hl (by have:=a3.1; dsimp only at this; lia) a3.2.1 s q
noncomputable def bk (at_:Nat) (s:ce):ce:=(s.1,s.2.1,if s.2.2<=at_ then s.2.2 else s.2.2 - 1)
theorem Fst.go {rss:List (List Nat)} {C:Nat} {os:List Nat} {sts vs:List ce} (h:Fst rss C os sts ((vs++[(f,l,c)]).filter (act C))) (hfl:f+2<=l) (hc:c<C) (hb64:b<=64)
  (hb:∀ x∈((os.drop f).take (l - f)).map λ p=>(fz rss c).getD p 0,x<b) :
  (∀ ob,ByF (((os.drop f).take (l - f)).map λ p=>(fz rss c).getD p 0) ob->bD (cnt (((os.drop f).take (l - f)).map λ p=>(fz rss c).getD p 0) b)=true->Fst rss C (os.take f++cmp ((os.drop f).take (l - f)) ob++os.drop l) (sts++[(f,l,c)]) ((vs++(aF f (cnt (((os.drop f).take (l - f)).map λ p=>(fz rss c).getD p 0) b) (c+1)).reverse).filter (act C)))/\
  (¬ bD (cnt (((os.drop f).take (l - f)).map λ p=>(fz rss c).getD p 0) b)=true->Fst rss C os sts ((vs++(aF f (cnt (((os.drop f).take (l - f)).map λ p=>(fz rss c).getD p 0) b) (c+1)).reverse).filter (act C))):=by
 have ea:act C (f,l,c)=true:=by unfold act; simp only [Ey,decide_eq_true_eq]; exact ⟨hfl,hc⟩
 rw [ES,FU,if_pos ea,IU] at h
 have e1:=nc hb hb64
 have e2:=pC (f:=f) (c:=c+1) (C:=C) hb hb64
 rw [ES,Hd,<-e2]
 constructor
 ·intro ob hB hp
  exact Fst.step h (e1.trans hp) hB
 ·intro hp
  exact Fst.stay h (e1.trans (JZ.mpr hp))
theorem Fst.skip {rss:List (List Nat)} {C:Nat} {os:List Nat} {sts vs:List ce} (h:Fst rss C os sts ((vs++[(f,l,c)]).filter (act C))) (hs:l<f+2\/c=C):Fst rss C os sts (vs.filter (act C)):=by
 have ea:¬ act C (f,l,c)=true:=by unfold act; simp only [Ey,decide_eq_true_eq]; lia
 rw [ES,FU,if_neg ea,IU,Ef] at h
 exact h
end L2
namespace HT
open PySem PyProof.Rows PySem.W L2
section
variable {prog:Program} {w:World} {A:Around} {E:Value->Shared->Prop} {s:Shared} {a kS:Addr} {vs ks:List Value} {e e1:Nat} {P:JL->Shared->Prop}
end
end HT
namespace L2
open PySem PySem.Spec PyProof.Rows PySem.W
section
variable {X:Cx} {N frs:List Str} {x qual:Str} {ix:List Nat} {scope:Scope} {cl:List (Str×Addr)} {A:Around} {f c' C:Addr}
end
section
variable {X:Cx} {N frs:List Str} {x:Str} {ix:List Nat} {scope:Scope} {cl:List (Str×Addr)} {A:Around} {cc P:Addr} {pins:List (Addr×Obj)} {σ:St} {H:Hp} {s:Shared} {params:Arguments} {body:Expr} {lpos:Pos}
section
variable {te:TE} {t:TA} {p p2 pos pos2 kpos:Pos} {e a:Expr} {k:Nat} {qual:Str}
end
end
section
variable {P:Program} {w:World} {K:C7} {mg:Str->Option Value} {base:Heap}
end
section
variable {X:Cx} {o:Expr} {to:TE} {pos apos cpos:Pos}
theorem mq {val:Nat->Int}:∀ {n:Nat} {k:Int},k∈firstMet val n↔∃ i,i<n/\val i=k
 | 0,k=>by rw [firstMet_zero]; simp
 | n+1,k=>by
  rw [firstMet_succ]
  have ih:=mq (val:=val) (n:=n) (k:=k)
  unfold step_dedup
  split
  ·rename_i h
   rw [ih]
   constructor
   ·rintro ⟨i,hi,e⟩; exact ⟨i,by lia,e⟩
   ·rintro ⟨i,hi,e⟩
    rcases El i n with q | q
    ·exact ⟨i,q,e⟩
    ·have:i=n:=by lia
     subst this
     obtain ⟨z,hz,ez⟩:=GW.mp h
     rw [beq_iff_eq] at ez
     subst ez
     rw [e] at hz
     exact ih.mp hz
  ·rw [DG,ih,Dk]
   constructor
   ·rintro (⟨i,hi,e⟩ | e)
    ·exact ⟨i,by lia,e⟩
    ·exact ⟨n,by lia,e.symm⟩
   ·rintro ⟨i,hi,e⟩
    rcases El i n with q | q
    ·exact .inl ⟨i,q,e⟩
    ·have:i=n:=by lia
     subst this; exact .inr e.symm
theorem fK {val:Nat->Int}:∀ n,(firstMet val n).Nodup
 | 0=>by rw [firstMet_zero]; exact KN
 | n+1=>by
  rw [firstMet_succ]
  unfold step_dedup
  split
  ·exact fK n
  ·rename_i h
   rw [J8]
   refine ⟨fK n,by simp,λ a ha b hb e=>?_⟩
   rw [Dk.mp hb] at e
   subst e
   exact h (GW.mpr ⟨_,ha,by simp⟩)
end
end L2
namespace L2
open PySem PySem.Spec PyProof.Rows
section
variable {X:Cx}
end
section
variable {K:C7} {H:Hp} {Q:VK}
end
section
variable {H:Hp} {n w:Nat}
end
section
variable {H H1 H2:Hp}
end
section
variable {H H1:Hp} {p a:Addr} {o:HO}
end
section
variable {H H1:Hp} {x:V} {os:List Nat} {a:Addr} {xs:List V}
end
section
variable {rss:List (List Nat)} {f m l:Nat} {x y:List Nat}
end
section
variable {rss:List (List Nat)}
end
section
variable {X:Cx} {pos:Pos}
end
section
variable {X:Cx} {tg a b c:Expr} {t:TA} {p pos:Pos}
end
noncomputable def cs:Nat->List Nat->List Nat
 | f,[]=>[f]
 | f,a::r=>f::cs (f+a) r
def Fl (e C:Addr) (H:Hp) (h0 h:Heap):Prop:=
 ∃ oe vs T oT ts a0,h.get? e=some oe/\oe.cls=.ref C/\oe.data=.fields vs/\vs[0]? = some a0/\vs[1]? = some (.ref T)/\T≠e/\h.get? T=some oT/\oT.data=.fields ts/\ts[3]? = some .none/\
  H e=none/\H T=none/\h0.get? e=none/\h0.get? T=none
section
variable {X:Cx} {pins:List (Addr×Obj)} {σ:St} {H:Hp} {s:Shared} {h':Heap}
end
noncomputable abbrev XW:=Addr->St->Hp->Prop
noncomputable abbrev TX:=Ends->XW->St->Hp->Prop
def XP (X:Cx) (pins:List (Addr×Obj)) (Ex:XW) (ev:Value) (s':Shared):Prop:=
  ∃ e C σ' H',ev=.ref e/\Ex C σ' H'/\
    ((∃ s0 vs,Inv X pins σ' H' s0/\Heap.MadeExcOf s0.heap s'.heap e (.ref C) vs/\s'={ s0 with heap:=s'.heap })\/
     (Inv X pins σ' H' s'/\∃ hb:Heap,Fl e C H' hb s'.heap/\(∀ b o,X.s₀.heap.get? b=some o->∃ o',hb.get? b=some o')/\∀ p∈X.pn++pins,∃ o',hb.get? p.1=some o'))
noncomputable abbrev TEX:=St->Hp->VK->(Addr->Hp->Prop)->Prop
section
variable {X:Cx} {st:Stmt} {sts s1 s2:List Stmt} {T1 T2:TX} {c e:Expr} {es:List Expr} {tA:TT} {te:TE} {t:TA} {pos p:Pos} {x:Str} {i:Nat}
def CV (i:Nat) (te:TEX):TX:=λ D Ex σ H=>te σ H (λ v H1=>D.nx (σ.set i (some v)) H1) λ C H1=>Ex C σ H1
variable {tx:TEX}
end
section
variable {X:Cx} {pins:List (Addr×Obj)} {σ:St} {H:Hp} {s:Shared} {h':Heap}
end
section
variable {P:Program} {w:World} {K:C7} {mg:Str->Option Value} {base:Heap}
end
end L2
namespace L2
open PySem PySem.Spec PyProof.Rows PySem.W
section
variable {prog:Program} {w:World} {A:Around} {E:Value->Shared->Prop} {h:Heap} {g:Array GenState} {d:Drawn} {t:Nat} {os:OsState} {K:Frag} {a C:Addr} {o:Obj} {vs:Array Value}
end
section
variable {X:Cx}
end
section
variable {X:Cx} {e:Expr} {es:List Expr} {t:TA} {np cpos pos p:Pos} {x:Str} {C:Addr}
end
section
variable {X:Cx} {pins:List (Addr×Obj)} {σ:St} {H:Hp} {s:Shared}
end
section
variable {X:Cx} {body suite:List Stmt} {b0:Stmt} {tb:TX} {ts:TS} {n x:Str} {i:Nat} {C:Addr} {np hpos pos:Pos}
end
end L2
namespace L2
open PySem PySem.Spec PyProof.Rows
section
variable {X:Cx} {v:Expr} {te:TE} {a b:Str} {p1 p2 p3 pos:Pos} {j1 j3:Nat}
end
section
variable {D:Ends} {Ex:XW} {σ:St} {H:Hp} {Q:VK} {K:C7} {i:Nat} {C:Addr}
theorem xJ {te:TEX} (h:te σ H (λ v H1=>D.nx (σ.set i (some v)) H1) λ C H1=>Ex C σ H1):CV i te D Ex σ H:=h
end
section
variable {X:Cx}
end
section
variable {H H1:Hp} {x:V} {n:Nat}
end
end L2
namespace HT
open PySem PyProof.Rows PySem.W L2
noncomputable def lt2 (k m:List Int×List Int):Bool:=if k.1=m.1 then cC k.2 m.2 else cC k.1 m.1
section
variable {prog:Program} {w:World} {A:Around} {E:Value->Shared->Prop} {s:Shared}
end
end HT
namespace L2
open PySem PySem.Spec PyProof.Rows
section
variable {X:Cx}
end
section
variable {X:Cx} {o e value:Expr} {es:List Expr} {f m x:Str} {pos pos' tpos apos p:Pos} {ta tv:TE} {t:TA} {C g:Addr} {CX:CXT} {k:Nat} {fd:FuncData} {ps:List Str} {sp:Sp} {E:XK}
theorem cE {K:C7} (he:QE X e ta) (hb:attributeBase e f X.env (eval e X.env)=eval e X.env:=by rfl) (hK:X.K=K:=by rfl):QE X (.Attribute e f pos) (Ba K ta f):=by
 subst hK; exact ⟨zb he.out hb⟩
theorem jt {K:C7} (ha:QE X o ta) (hv:QE X value tv) (hs:swapsWith value (some (.Attribute o f pos')) pos.line X.env=pure false:=by rfl) (hK:X.K=K:=by rfl):QS X (.Assign [.Attribute o f pos'] value pos) (Bb K ta tv f):=by
 subst hK; exact ⟨zc ha.out hv.out hs⟩
theorem rB {K:C7} {op:Operator} {rd:R2} (ha:QE X o ta) (hv:QE X value tv) (ho:QOp X (inplaceOp op) rd) (hK:X.K=K:=by rfl):QS X (.AugAssign (.Attribute o f tpos) op value pos) (mR K ta tv rd f):=by
 subst hK; exact ⟨qi ha.out hv.out ho.out⟩
theorem ng {pl:Sem Bool} (he:QE X o ta) (c:Cls X.K C) (hm:Meth X.K C m g) (F:FnOk X.prog X.w X.K X.mg X.base CX k g fd ps sp) (hr:Room k X.A) (hb:Binds X.K fd ps []) (hx:eh CX X E) (ha:QA X (e::es) t)
  (hst:starEach (e::es) X.env=(false,eval e X.env)::starEach es X.env:=by rfl) (hpl:(backTo pos (starEach es X.env)).any (·.1)=false:=by rfl)
  (ht:eval (.Call (.Attribute o m apos) (e::es) [] pos) X.env=(do
   let ov <-eval o X.env
   standAt apos.atName
   let (q,first) <-holding [ov] (getMethod ov m pl)
   callWith pos q first (backTo pos (starEach (e::es) X.env)) (backToKw pos (keywordEach [] X.env))):=by rfl) :
  QE X (.Call (.Attribute o m apos) (e::es) [] pos) (qk C m sp [] E ta t):=⟨wP (pl:=pl) he.out c hm F hr hb .nil hx ha.out hst hpl ht⟩
theorem dN {pl:Sem Bool} (he:QE X o ta) (c:Cls X.K C) (hm:Meth X.K C m g) (F:FnOk X.prog X.w X.K X.mg X.base CX k g fd ps sp) (hr:Room k X.A) (hb:Binds X.K fd ps []) (hx:eh CX X E)
  (ht:eval (.Call (.Attribute o m apos) [] [] pos) X.env=(do
   let ov <-eval o X.env
   standAt apos.atName
   let (q,first) <-holding [ov] (getMethod ov m pl)
   callWith pos q first (backTo pos (starEach [] X.env)) (backToKw pos (keywordEach [] X.env))):=by rfl) :
  QE X (.Call (.Attribute o m apos) [] [] pos) (qk C m sp [] E ta zd):=⟨ug (pl:=pl) he.out c hm F hr hb .nil hx ht⟩
theorem xK (M:Mk X.K C g) (F:FnOk X.prog X.w X.K X.mg X.base CX k g fd ps sp) (hr:Room (k+1) X.A) (hg:Gl X x) (hm:X.mg x=some (.ref C)) (hb:Binds X.K fd ps []) (hx:eh CX X E)
  (ha:QA X (e::es) t) (hdb:(x == ("__debug__" : Str))=false:=by decide) (he:starEach (e::es) X.env=(false,eval e X.env)::starEach es X.env:=by rfl) (hpl:(backTo pos (starEach es X.env)).any (·.1)=false:=by rfl) :
  QE X (.Call (.Name x p) (e::es) [] pos) (wN C sp [] E t):=⟨wQ M F hr hg hm hb .nil hx ha.out hdb he hpl⟩
end
section
variable {K:C7} {σ:St} {H:Hp} {Q:VK} {D:Ends} {ta tv:TE} {t:TA} {f m:Str} {C:Addr} {sp:Sp} {E:XK} {a dx:Addr} {fs:List (Str×V)} {v:V}
theorem Cq (h:ta σ H λ x H1=>∃ a C dx fs v,x=.ref a/\H1 a=some (.ins C dx fs)/\Cls K C/\NoAttr K C f/\fs.lookup f=some v/\Q v H1):Ba K ta f σ H Q:=h
theorem BP (h:tv σ H λ y H1=>ta σ H1 λ x H2=>∃ a C dx fs,x=.ref a/\H2 a=some (.ins C dx fs)/\Cls K C/\NoAttr K C f/\fs.length<1000/\D.nx σ (upd H2 a (.ins C dx (bG f y fs)))):Bb K ta tv f D σ H:=h
theorem yu {rd:R2} (h:ta σ H λ x H1=>∃ a C dx fs v,x=.ref a/\H1 a=some (.ins C dx fs)/\Cls K C/\NoAttr K C f/\fs.lookup f=some v/\
 tv σ H1 λ y H2=>rd v y H2 λ z H3=>∃ dx' fs',H3 a=some (.ins C dx' fs')/\fs'.length<1000/\D.nx σ (upd H3 a (.ins C dx' (bG f z fs')))):mR K ta tv rd f D σ H:=h
theorem BQ (h:ta σ H λ x H1=>∃ a dx fs,x=.ref a/\H1 a=some (.ins C dx fs)/\fs.lookup m=none/\t σ H1 λ vs H2=>sp (x::(vs++[])) H2 Q E):qk C m sp [] E ta t σ H Q:=h
theorem BR (h:t σ H λ vs H1=>∀ x dx,H1 x=none->H1 dx=none->dx≠x->sp (.ref x::(vs++[])) (upd (upd H1 dx (.own x)) x (.ins C dx [])) (λ v H2=>v=.non/\Q (.ref x) H2) E):wN C sp [] E t σ H Q:=h
end
def rD (x:V) (d:PyData):Prop:=(x=.non/\d=.none)\/(∃ b,x=.bl b/\d=.bool b)\/(∃ i:Int,x=.int i/\d=.int i)\/(∃ y,x=.str y/\d=.str y/\PyData.strOk y=true)
noncomputable def DatE:Nat->Hp->V->PyData->Prop
 | 0,_,x,d=>rD x d
 | n+1,H,x,d=>rD x d\/(∃ a xs ds,x=.ref a/\d=.list ds/\H a=some (.lst xs)/\xs.length=ds.length/\∀ (i:Nat) u e,xs[i]? = some u->ds[i]? = some e->DatE n H u e)\/
  (∃ a xs ds,x=.ref a/\d=.tuple ds/\H a=some (.tup xs)/\xs.length=ds.length/\∀ (i:Nat) u e,xs[i]? = some u->ds[i]? = some e->DatE n H u e)
theorem DatE.leaf {H:Hp} {x:V} {d:PyData} (h:rD x d):∀ {n:Nat},DatE n H x d
 | 0=>h
 | n+1=>.inl h
theorem DatE.int {H:Hp} {n:Nat} (i:Int):DatE n H (.int i) (.int i):=DatE.leaf (.inr (.inr (.inl ⟨i,rfl,rfl⟩)))
theorem DatE.lst {H:Hp} {n:Nat} {a:Addr} {xs:List V} {ds:List PyData} (e:H a=some (.lst xs)) (hl:xs.length=ds.length) (h:∀ (i:Nat) u e,xs[i]? = some u->ds[i]? = some e->DatE n H u e):DatE (n+1) H (.ref a) (.list ds):=
 .inr (.inl ⟨a,xs,ds,rfl,rfl,e,hl,h⟩)
theorem DatE.tup {H:Hp} {n:Nat} {a:Addr} {xs:List V} {ds:List PyData} (e:H a=some (.tup xs)) (hl:xs.length=ds.length) (h:∀ (i:Nat) u e,xs[i]? = some u->ds[i]? = some e->DatE n H u e):DatE (n+1) H (.ref a) (.tuple ds):=
 .inr (.inr ⟨a,xs,ds,rfl,rfl,e,hl,h⟩)
theorem DatE.facts {H:Hp}:∀ {n:Nat} {x:V} {d:PyData},DatE n H x d->d.canLay0=true/\d.depth<=n
 | n,x,d,h=>by
  have hint:rD x d->d.canLay0=true/\d.depth<=n:=by
   rintro (⟨rfl,rfl⟩ | ⟨b,rfl,rfl⟩ | ⟨i,rfl,rfl⟩ | ⟨y,rfl,rfl,hy⟩)
   ·exact ⟨rfl,Du _⟩
   ·exact ⟨rfl,Du _⟩
   ·exact ⟨rfl,Du _⟩
   ·exact ⟨hy,Du _⟩
  match n,h with
  | 0,h=>exact hint h
  | n+1,h=>
   rcases h with h | ⟨a,xs,ds,rfl,rfl,ha,hl,hi⟩ | ⟨a,xs,ds,rfl,rfl,ha,hl,hi⟩
   ·exact hint h
   ·have hd:∀ d∈ds,d.canLay0=true/\d.depth<=n:=λ d hd=>by
     obtain ⟨i,e⟩:=FL hd
     have hlt:=aR e
     exact DatE.facts (hi i (xs[i]'(by lia)) d (C4 _) e)
    exact ⟨jp (P:=KO) (PA:=J9) rfl (λ _ _=>rfl) λ d h=>(hd d h).1,GS (cO λ d h=>(hd d h).2)⟩
   ·have hd:∀ d∈ds,d.canLay0=true/\d.depth<=n:=λ d hd=>by
     obtain ⟨i,e⟩:=FL hd
     have hlt:=aR e
     exact DatE.facts (hi i (xs[i]'(by lia)) d (C4 _) e)
    exact ⟨jp (P:=KO) (PA:=J9) rfl (λ _ _=>rfl) λ d h=>(hd d h).1,GS (cO λ d h=>(hd d h).2)⟩
section
variable {X:Cx} {pins:List (Addr×Obj)} {σ:St} {H:Hp} {s:Shared}
theorem DatE.reads (I:Inv X pins σ H s):∀ {n:Nat} {x:V} {d:PyData} {v:Value},DatE n H x d->RelV x v->∃ as,Reads s.heap v d as
 | n,x,d,v,h,r=>by
  have hint:rD x d->∃ as,Reads s.heap v d as:=by
   rintro (⟨rfl,rfl⟩ | ⟨b,rfl,rfl⟩ | ⟨i,rfl,rfl⟩ | ⟨y,rfl,rfl,_⟩)
   ·cases r; exact ⟨_,.none⟩
   ·cases r; exact ⟨_,.bool b⟩
   ·obtain ⟨t,rfl⟩:=r; exact ⟨_,.int i t⟩
   ·obtain ⟨t,rfl⟩:=r; exact ⟨_,.str y t⟩
  match n,h with
  | 0,h=>exact hint h
  | n+1,h=>
   rcases h with h | ⟨a,xs,ds,rfl,rfl,ha,hl,hi⟩ | ⟨a,xs,ds,rfl,rfl,ha,hl,hi⟩
   ·exact hint h
   ·cases r
    obtain ⟨its,m,rv,ho,hz⟩:=I.lst ha
    obtain ⟨as,h1⟩:=cP (R:=DatE n H) (λ x v d h r=>DatE.reads I h r) rv hl hi
    exact ⟨_,.list ho rfl rfl (by simpa using h1)⟩
   ·cases r
    obtain ⟨its,rv,⟨ob,ho,hc,m,hd⟩,hz⟩:=I.tuple (MR ha)
    obtain ⟨as,h1⟩:=cP (R:=DatE n H) (λ x v d h r=>DatE.reads I h r) rv hl hi
    exact ⟨_,.tuple ho hc hd (by simpa using h1)⟩
def Cr:R2:=λ x y H Q=>∃ (n:Nat) (d e:PyData),DatE n H x d/\DatE n H y e/\n<=32/\Q (.bl (!PyData.eqv d e)) H
theorem zY (hu:X.A.units+64<cLine):QOp X (compareOp .NotEq) Cr:=by
 refine ⟨λ pins s σ H x y v u Q I rx ry h=>?_⟩
 obtain ⟨n,d,e,hd,he,hn,q⟩:=h
 obtain ⟨as,r1⟩:=hd.reads I rx
 obtain ⟨bs,r2⟩:=he.reads I ry
 have f1:=hd.facts
 have f2:=he.facts
 exact LP r1 r2 f1.1 f2.1 (by have:=Nat.min_le_left d.depth e.depth; have:=f1.2; lia) X.prog X.w X.xe _ ⟨.bl _,H,I,rfl,q⟩
end
section
variable {H:Hp} {Q:VK} {x y:V} {n:Nat} {d e:PyData}
theorem mt (h1:DatE n H x d) (h2:DatE n H y d) (hn:n<=32) (h:Q (.bl false) H):Cr x y H Q:=⟨n,d,d,h1,h2,hn,by rw [Mf d h1.facts.1]; exact h⟩
end
end L2
namespace HT
open PySem PyProof.Rows PySem.W L2
section
variable {prog:Program} {w:World} {A:Around} {E:Value->Shared->Prop} {s:Shared}
end
end HT
namespace L2
open PySem PySem.Spec PyProof.Rows PySem.W
section
variable {X:Cx} {e:Expr} {t:TA} {p pos kpos cp:Pos} {k:Nat} {j:Nat}
end
end L2
namespace L2
open PySem PySem.Spec PyProof.Rows
noncomputable abbrev PR:=Option (Nat×Nat)
structure HW where
 ps:List PR
 hd:PR
 mks:List Nat
 en:List Nat
 pt:Nat
noncomputable def AJ (f:Nat) (o:PR):Bool:=match o with | some z=>decide (z.1=f) | none=>false
noncomputable def isF (ps:List PR) (f p:Nat):Bool:=AJ f (ps.getD p none)
noncomputable def goF (ps:List PR) (f e:Nat) (p:Nat):Nat:=if p<e/\isF ps f p=true then goF ps f e (p+1) else p
termination_by e - p
theorem rE {ps:List PR} {e p:Nat} (h1:p<e) (h2:isF ps f p=true):goF ps f e p=goF ps f e (p+1):=by
 conv=>lhs; unfold goF
 rw [if_pos ⟨h1,h2⟩]
theorem dO {ps:List PR} {e p:Nat} (h:¬ (p<e/\isF ps f p=true)):goF ps f e p=p:=by
 unfold goF
 rw [if_neg h]
theorem mw {ps:List PR} {e:Nat} (p:Nat) (h:p<=e):p<=goF ps f e p/\goF ps f e p<=e/\(∀ q,p<=q->q<goF ps f e p->isF ps f q=true)/\(goF ps f e p<e->isF ps f (goF ps f e p)=false):=by
 induction n:e - p generalizing p with
 | zero=>
  have:¬ p<e:=by lia
  rw [dO λ z=>this z.1]
  exact ⟨C8 _,h,λ q h1 h2=>absurd h2 (by lia),λ z=>absurd z this⟩
 | succ n ih=>
  by_cases g:isF ps f p=true
  ·rw [rE (by lia) g]
   obtain ⟨a,b,c,d⟩:=ih (p+1) (by lia) (by lia)
   refine ⟨by lia,b,λ q h1 h2=>?_,d⟩
   by_cases e:q=p
   ·rw [e]; exact g
   ·exact c q (by lia) h2
  ·rw [dO λ z=>g z.2]
   refine ⟨C8 _,h,λ q h1 h2=>absurd h2 (by lia),λ _=>?_⟩
   cases z:isF ps f p with
   | true=>exact absurd z g
   | false=>rfl
noncomputable def HW.mark (st:HW) (f:Nat):Nat:=goF st.ps f (st.en.getD f 0) (st.mks.getD f 0)
noncomputable def HW.marked (st:HW) (f:Nat):HW:={ st with mks:=st.mks.set f (st.mark f) }
noncomputable def HW.takeG (st:HW):Nat->Nat->Option Nat×HW
 | 0,_=>(none,st)
 | n+1,f=>if st.mark f<st.en.getD f 0 then (some (st.mark f),{ st.marked f with hd:=st.ps.getD (st.mark f) none,ps:=st.ps.set (st.mark f) none }) else (st.marked f).takeG n (f+1)
noncomputable def HW.putG (st:HW) (z:Nat×Nat):HW:={ st with ps:=st.ps.set (st.mark z.1) (some z),hd:=st.ps.getD (st.mark z.1) none,mks:=st.mks.set z.1 (st.mark z.1+1),pt:=st.pt+1 }
inductive Mv where
 | take (p:Nat)
 | lay (p:Nat)
 | change (p:Nat)
noncomputable def HW.step (st:HW):Option Mv×HW:=
 match st.hd with
 | none=>((st.takeG st.en.length 0).1.map Mv.take,(st.takeG st.en.length 0).2)
 | some z=>(some (match st.ps.getD (st.mark z.1) none with | none=>Mv.lay (st.mark z.1) | some _=>Mv.change (st.mark z.1)),st.putG z)
noncomputable def fm (ps:List PR):List (Nat×Nat):=ps.filterMap id
noncomputable def HW.all (st:HW):List (Nat×Nat):=fm st.ps++st.hd.toList
noncomputable def inP (os:List Nat) (g p:Nat):Bool:=decide (ai os g<=p) && decide (p<ai os (g+1))
structure HwOk (qs:List (Nat×Nat)) (b:Nat) (st:HW):Prop where
 en:st.en=(C9 b).map λ f=>ai (qs.map Dc) (f+1)
 ml:st.mks.length=b
 lo:∀ f,f<b->ai (qs.map Dc) f<=st.mks.getD f 0/\st.mks.getD f 0<=ai (qs.map Dc) (f+1)
 fi:∀ f,f<b->∀ p,ai (qs.map Dc) f<=p->p<st.mks.getD f 0->isF st.ps f p=true
 pl:st.ps.length=qs.length
 pe:st.all.Perm qs
theorem bB {α:Type} {xs:List α} {x d:α} (h:i<xs.length):(xs.set i x).getD i d=x:=by
 rw [C5,EH h]; rfl
theorem ck {α:Type} {xs:List α} {x d:α} (h:i≠j):(xs.set i x).getD j d=xs.getD j d:=by
 rw [C5,FJ h,C5]
theorem eX (o:PR) (ps:List PR):fm (o::ps)=o.toList++fm ps:=by
 unfold fm
 cases o<;>rfl
theorem rF:∀ (ps:List PR) (p:Nat) (o:PR),p<ps.length->(fm (ps.set p o)++(ps.getD p none).toList).Perm (fm ps++o.toList)
 | [],p,o,h=>absurd h (EF _)
 | x::r,0,o,h=>by
  rw [Hz,eX,eX,show (x::r).getD 0 none=x from rfl]
  refine List.perm_iff_count.mpr λ a=>?_
  simp only [Fj]; lia
 | x::r,p+1,o,h=>by
  have ih:=rF r p o (by simpa using h)
  rw [JM,eX,eX,show (x::r).getD (p+1) none=r.getD p none from by simp [C5]]
  rw [DH,DH]
  exact ih.append_left _
theorem my:∀ (ps:List PR),(fm ps).length<=ps.length
 | []=>C8 _
 | o::r=>by
  have:=my r
  rw [eX,Dg,DD]
  cases o<;>simp<;>lia
theorem rG:∀ (ps:List PR),(fm ps).length=ps.length->∀ p,p<ps.length->ps.getD p none≠none
 | [],_,p,h=>absurd h (EF _)
 | o::r,h,p,hp=>by
  have:=my r
  rw [eX,Dg,DD] at h
  cases o with
  | none=>simp at h; lia
  | some z=>
   match p with
   | 0=>intro e; cases e
   | p+1=>
    rw [show (some z::r).getD (p+1) none=r.getD p none from by simp [C5]]
    exact rG r (by simp at h; lia) p (by simpa using hp)
theorem vG:∀ (ps:List PR) (f:Nat),(∀ o∈ps,AJ f o=true)->((fm ps).map Dc).count f=ps.length
 | [],_,_=>rfl
 | o::r,f,h=>by
  have ih:=vG r f λ o ho=>h o (DE _ ho)
  have ho:=h o (DF ..)
  cases o with
  | none=>cases ho
  | some z=>
   have:z.1=f:=of_decide_eq_true ho
   rw [eX]
   show ((z.1::(fm r).map Dc)).count f=_
   rw [this,Js,ih]; rfl
theorem zZ {ps:List PR} {a:Nat} (h:∀ p,a<=p->p<a+m->isF ps f p=true) (hl:a+m<=ps.length):m<=((fm ps).map Dc).count f:=by
 have h1:((ps.drop a).take m).Sublist ps:=(FC ..).trans (GN ..)
 have h2:((fm ((ps.drop a).take m)).map Dc).Sublist ((fm ps).map Dc):=(h1.filterMap id).map _
 have h3:=h2.count_le f
 have h4:=vG ((ps.drop a).take m) f λ o ho=>by
  obtain ⟨i,hi,rfl⟩:=Eh ho
  rw [Df,DU] at hi
  have:=h (a+i) (by lia) (by lia)
  unfold isF at this
  rw [C5,C4 (by lia)] at this
  rw [Gq,Gp]
  exact this
 rw [Df,DU] at h4
 lia
theorem ia {ps:List PR} {p q:Nat} {o:PR} (h:p≠q):isF (ps.set p o) f q=isF ps f q:=by
 unfold isF; rw [ck h]
section
variable {qs:List (Nat×Nat)} {b:Nat} {st:HW}
theorem HwOk.el (h:HwOk qs b st):st.en.length=b:=by rw [h.en]; simp
theorem HwOk.eg (h:HwOk qs b st) (hf:f<b):st.en.getD f 0=ai (qs.map Dc) (f+1):=by
 rw [h.en,C5,De,Eg hf]; rfl
theorem HwOk.less (h:HwOk qs b st) (f:Nat):ai (qs.map Dc) f<=st.ps.length:=by
 have:=c9 (qs.map Dc) f
 rw [h.pl]; simpa using this
theorem HwOk.mk_facts (h:HwOk qs b st) (hf:f<b):st.mks.getD f 0<=st.mark f/\st.mark f<=ai (qs.map Dc) (f+1)/\(∀ p,ai (qs.map Dc) f<=p->p<st.mark f->isF st.ps f p=true)/\(st.mark f<ai (qs.map Dc) (f+1)->isF st.ps f (st.mark f)=false):=by
 unfold HW.mark
 rw [h.eg hf]
 obtain ⟨a,b',c,d⟩:=mw (ps:=st.ps) (f:=f) (e:=ai (qs.map Dc) (f+1)) (st.mks.getD f 0) (h.lo f hf).2
 refine ⟨a,b',λ p h1 h2=>?_,d⟩
 by_cases g:p<st.mks.getD f 0
 ·exact h.fi f hf p h1 g
 ·exact c p (by lia) h2
theorem HwOk.marked (h:HwOk qs b st) {f:Nat} (hf:f<b):HwOk qs b (st.marked f):=by
 obtain ⟨m1,m2,m3,m4⟩:=h.mk_facts hf
 refine ⟨h.en,by show (st.mks.set f _).length=b; rw [Ew]; exact h.ml,λ g hg=>?_,λ g hg p h1 h2=>?_,h.pl,h.pe⟩
 ·show ai (qs.map Dc) g<=(st.mks.set f (st.mark f)).getD g 0/\(st.mks.set f (st.mark f)).getD g 0<=_
  by_cases e:f=g
  ·subst e
   rw [bB (by rw [h.ml]; exact hf)]
   exact ⟨D9 (h.lo f hf).1 m1,m2⟩
  ·rw [ck e]; exact h.lo g hg
 ·have h2:p<(st.mks.set f (st.mark f)).getD g 0:=h2
  by_cases e:f=g
  ·subst e
   rw [bB (by rw [h.ml]; exact hf)] at h2
   exact m3 p h1 h2
  ·rw [ck e] at h2
   exact h.fi g hg p h1 h2
theorem HwOk.full (h:HwOk qs b st) (hd:st.hd=none):∀ p,p<st.ps.length->st.ps.getD p none≠none:=by
 have e:=h.pe.length_eq
 unfold HW.all at e
 rw [hd] at e
 exact rG _ (by rw [h.pl]; simpa using e)
theorem gF {os:List Nat} {g p:Nat} (h1:ai os f<=p) (h2:p<ai os (f+1)) (hn:g≠f):inP os g p=false:=by
 unfold inP
 rcases Hy hn with z | z
 ·have:=bn (os:=os) (show g+1<=f from z)
  rw [decide_eq_false (by lia:¬ p<ai os (g+1)),Jb]
 ·have:=bn (os:=os) (show f+1<=g from z)
  rw [decide_eq_false (by lia:¬ ai os g<=p),KI]
theorem gG {os:List Nat} {p:Nat} (h1:ai os f<=p) (h2:p<ai os (f+1)):inP os f p=true:=by
 unfold inP
 rw [decide_eq_true h1,decide_eq_true h2]; rfl
theorem pD (n:Nat):∀ (f:Nat) (st:HW),HwOk qs b st->st.hd=none->f+n=b->(∀ g,g<f->∀ p,ai (qs.map Dc) g<=p->p<ai (qs.map Dc) (g+1)->isF st.ps g p=true)->
  ((st.takeG n f).1=none/\(st.takeG n f).2.ps=st.ps/\(st.takeG n f).2.hd=none/\(st.takeG n f).2.pt=st.pt/\HwOk qs b (st.takeG n f).2/\∀ g,g<b->∀ p,ai (qs.map Dc) g<=p->p<ai (qs.map Dc) (g+1)->isF st.ps g p=true)\/
  (∃ p z,(st.takeG n f).1=some p/\p<st.ps.length/\st.ps.getD p none=some z/\inP (qs.map Dc) z.1 p=false/\(st.takeG n f).2.hd=some z/\(st.takeG n f).2.ps=st.ps.set p none/\(st.takeG n f).2.pt=st.pt/\HwOk qs b (st.takeG n f).2):=by
 induction n with
 | zero=>
  intro f st h hd hf hg
  exact .inl ⟨rfl,rfl,hd,rfl,h,λ g hgb=>hg g (by lia)⟩
 | succ n ih=>
  intro f st h hd hf hg
  have hfb:f<b:=by lia
  obtain ⟨m1,m2,m3,m4⟩:=h.mk_facts hfb
  have hls:=h.less (f+1)
  unfold HW.takeG
  by_cases c:st.mark f<st.en.getD f 0
  ·rw [if_pos c]
   rw [h.eg hfb] at c
   have hF:=m4 c
   have hlo:ai (qs.map Dc) f<=st.mark f:=D9 (h.lo f hfb).1 m1
   have hpl:st.mark f<st.ps.length:=by lia
   cases hz:st.ps.getD (st.mark f) none with
   | none=>exact absurd hz (h.full hd _ hpl)
   | some z=>
    have hne:z.1≠f:=λ e=>by
     unfold isF at hF
     rw [hz] at hF
     exact absurd e (of_decide_eq_false hF)
    refine .inr ⟨st.mark f,z,rfl,hpl,hz,gF hlo c hne,rfl,rfl,rfl,?_⟩
    have hm:=h.marked hfb
    refine ⟨hm.en,hm.ml,hm.lo,λ g hgb p h1 h2=>?_,by show (st.ps.set _ none).length=_; rw [Ew]; exact h.pl,?_⟩
    ·have key:=hm.fi g hgb p h1 h2
     show isF (st.ps.set (st.mark f) none) g p=true
     rw [ia]
     ·exact key
     ·intro e
      subst e
      have k2:isF st.ps g (st.mark f)=true:=key
      have hgf:g≠f:=λ z'=>by rw [z',hF] at k2; cases k2
      have:=gF (os:=qs.map Dc) hlo c hgf
      have hup:=(hm.lo g hgb).2
      rw [gG h1 (Ds h2 hup)] at this
      cases this
    ·have k1:=rF st.ps (st.mark f) none hpl
     rw [hz] at k1
     have k2:=h.pe
     unfold HW.all at k2 ⊢
     rw [hd] at k2
     exact k1.trans k2
  ·rw [if_neg c]
   rw [h.eg hfb] at c
   have hm:st.mark f=ai (qs.map Dc) (f+1):=by lia
   rcases ih (f+1) (st.marked f) (h.marked hfb) hd (by lia) (λ g hg' p h1 h2=>by
    by_cases e:g=f
    ·subst e
     exact m3 p h1 (by lia)
    ·exact hg g (by lia) p h1 h2) with r | r
   ·exact .inl r
   ·exact .inr r
theorem ju {z:Nat×Nat} (h:HwOk qs b st) (hq:∀ q∈qs,q.1<b) (hd:st.hd=some z) :
  z.1<b/\st.mark z.1<st.ps.length/\inP (qs.map Dc) z.1 (st.mark z.1)=true/\(∀ y,st.ps.getD (st.mark z.1) none=some y->inP (qs.map Dc) y.1 (st.mark z.1)=false)/\HwOk qs b (st.putG z):=by
 have hzm:z∈qs:=h.pe.mem_iff.mp (by unfold HW.all; rw [hd]; simp)
 have hzb:=hq z hzm
 obtain ⟨m1,m2,m3,m4⟩:=h.mk_facts hzb
 have hls:=h.less (z.1+1)
 have hlo:ai (qs.map Dc) z.1<=st.mark z.1:=D9 (h.lo z.1 hzb).1 m1
 have hlt:st.mark z.1<ai (qs.map Dc) (z.1+1):=by
  apply FM
  intro c
  have e:st.mark z.1=ai (qs.map Dc) (z.1+1):=by lia
  have hsu:=aM (qs.map Dc) z.1
  have k1:=zZ (ps:=st.ps) (f:=z.1) (a:=ai (qs.map Dc) z.1) (m:=(qs.map Dc).count z.1) (λ p h1 h2=>m3 p h1 (by lia)) (by lia)
  have k2:=(h.pe.map Dc).count_eq z.1
  unfold HW.all at k2
  rw [hd,Dr,Fj] at k2
  simp at k2
  have k3:(Ks Dc (fm st.ps)).count z.1+1=(qs.map Dc).count z.1:=by
   rw [<-k2]
  lia
 have hF:=m4 hlt
 have hpl:st.mark z.1<st.ps.length:=by lia
 refine ⟨hzb,hpl,gG hlo hlt,λ y hy=>gF hlo hlt λ e=>?_,?_⟩
 ·unfold isF at hF
  rw [hy] at hF
  exact absurd e (of_decide_eq_false hF)
 ·refine ⟨h.en,by show (st.mks.set _ _).length=b; rw [Ew]; exact h.ml,λ g hg=>?_,λ g hg p h1 h2=>?_,by show (st.ps.set _ _).length=_; rw [Ew]; exact h.pl,?_⟩
  ·show ai (qs.map Dc) g<=(st.mks.set z.1 (st.mark z.1+1)).getD g 0/\(st.mks.set z.1 (st.mark z.1+1)).getD g 0<=_
   by_cases e:z.1=g
   ·subst e
    rw [bB (by rw [h.ml]; exact hzb)]
    exact ⟨by lia,hlt⟩
   ·rw [ck e]; exact h.lo g hg
  ·have h2:p<(st.mks.set z.1 (st.mark z.1+1)).getD g 0:=h2
   show isF (st.ps.set (st.mark z.1) (some z)) g p=true
   by_cases e:z.1=g
   ·rw [<-e] at h1 h2 ⊢
    rw [bB (by rw [h.ml]; exact hzb)] at h2
    by_cases e2:st.mark z.1=p
    ·rw [<-e2]
     unfold isF
     rw [bB hpl]
     exact decide_eq_true rfl
    ·rw [ia e2]
     exact m3 p h1 (by lia)
   ·rw [ck e] at h2
    have hup:=(h.lo g hg).2
    have hne:st.mark z.1≠p:=λ e2=>by
     have:=gF (os:=qs.map Dc) hlo hlt (λ z'=>e z'.symm)
     rw [e2,gG h1 (Ds h2 hup)] at this
     cases this
    rw [ia hne]
    exact h.fi g hg p h1 h2
  ·have k1:=rF st.ps (st.mark z.1) (some z) hpl
   have k2:=h.pe
   unfold HW.all at k2 ⊢
   rw [hd] at k2
   exact k1.trans k2
end
noncomputable def bad (os:List Nat) (p:Nat) (o:PR):Nat:=match o with | some z=>if inP os z.1 p=true then 0 else 1 | none=>0
noncomputable def pE (os:List Nat):Nat->List PR->Nat
 | _,[]=>0
 | k,o::r=>bad os k o+pE os (k+1) r
theorem li (os:List Nat):∀ (k:Nat) (ps:List PR) (p:Nat) (o:PR),p<ps.length->pE os k (ps.set p o)+bad os (k+p) (ps.getD p none)=pE os k ps+bad os (k+p) o
 | k,[],p,o,h=>absurd h (EF _)
 | k,x::r,0,o,h=>by
  simp only [Hz,pE,FS,show (x::r).getD 0 none=x from rfl]; lia
 | k,x::r,p+1,o,h=>by
  have ih:=li os (k+1) r p o (by simpa using h)
  rw [JM,pE,pE,show (x::r).getD (p+1) none=r.getD p none from by simp [C5]]
  rw [show k+1+p=k+(p+1) by lia] at ih
  lia
theorem z3 (os:List Nat) (p:Nat) (o:PR):bad os p o<=1:=by
 unfold bad
 split
 ·split<;>lia
 ·lia
theorem rH (os:List Nat):∀ (k:Nat) (ps:List PR),pE os k ps<=ps.length
 | _,[]=>C8 _
 | k,o::r=>by
  have:=rH os (k+1) r
  have:=z3 os k o
  rw [pE,DD]; lia
theorem mz (os:List Nat):∀ (k:Nat) (ps:List PR),(∀ p,p<ps.length->bad os (k+p) (ps.getD p none)=0)->pE os k ps=0
 | _,[],_=>rfl
 | k,o::r,h=>by
  have h0:=h 0 (by simp)
  have ih:=mz os (k+1) r λ p hp=>by
   have:=h (p+1) (by simpa using hp)
   rw [show (o::r).getD (p+1) none=r.getD p none from by simp [C5]] at this
   rw [show k+1+p=k+(p+1) by lia]; exact this
  rw [pE,ih]
  exact h0
noncomputable def HW.mis (os:List Nat) (st:HW):Nat:=pE os 0 st.ps+st.hd.toList.length
theorem ib (os:List Nat) (b:Nat) (h:∀ o∈os,o<b) {p:Nat} (hp:p<os.length):∃ f,f<b/\ai os f<=p/\p<ai os (f+1):=by
 have hb:ai os b=os.length:=by
  unfold ai
  rw [GY]
  exact λ o ho=>decide_eq_true (h o ho)
 have h0:ai os 0=0:=by
  unfold ai
  rw [Ft]
  intro o _
  simp
 clear h
 induction b with
 | zero=>lia
 | succ b ih=>
  by_cases g:ai os b<=p
  ·exact ⟨b,Fu _,g,by lia⟩
  ·have:∀ c,ai os c<=p\/¬ ai os c<=p:=λ c=>MP _
   clear hb ih
   induction b with
   | zero=>lia
   | succ b ih=>
    by_cases g2:ai os b<=p
    ·exact ⟨b,by lia,g2,by lia⟩
    ·obtain ⟨f,h1,h2⟩:=ih g2
     exact ⟨f,by lia,h2⟩
section
variable {qs:List (Nat×Nat)} {b:Nat} {st:HW}
theorem dG (h:HwOk qs b st) (hq:∀ q∈qs,q.1<b) :
  (st.hd=none/\st.step.1=none/\st.step.2.ps=st.ps/\st.step.2.hd=none/\st.step.2.pt=st.pt/\HwOk qs b st.step.2/\st.mis (qs.map Dc)=0/\st.step.2.mis (qs.map Dc)=0/\(∀ g,g<b->∀ p,ai (qs.map Dc) g<=p->p<ai (qs.map Dc) (g+1)->isF st.ps g p=true))\/
  (∃ p z,st.hd=none/\st.step.1=some (.take p)/\p<st.ps.length/\st.ps.getD p none=some z/\inP (qs.map Dc) z.1 p=false/\st.step.2.hd=some z/\st.step.2.ps=st.ps.set p none/\st.step.2.pt=st.pt/\HwOk qs b st.step.2/\st.step.2.mis (qs.map Dc)=st.mis (qs.map Dc))\/
  (∃ p z,st.hd=some z/\p<st.ps.length/\inP (qs.map Dc) z.1 p=true/\st.step.2.ps=st.ps.set p (some z)/\st.step.2.hd=st.ps.getD p none/\st.step.2.pt=st.pt+1/\HwOk qs b st.step.2/\st.step.2.mis (qs.map Dc)+1=st.mis (qs.map Dc)/\
   ((st.ps.getD p none=none/\st.step.1=some (.lay p))\/∃ y,st.ps.getD p none=some y/\inP (qs.map Dc) y.1 p=false/\st.step.1=some (.change p))):=by
 cases hd:st.hd with
 | none=>
  have es:st.step=((st.takeG st.en.length 0).1.map Mv.take,(st.takeG st.en.length 0).2):=by unfold HW.step; rw [hd]
  rw [es,h.el]
  rcases pD b 0 st h hd (by lia) (λ g hg=>absurd hg (EF _)) with ⟨r1,r2,r3,r4,r5,r6⟩ | ⟨p,z,r1,r2,r3,r4,r5,r6,r7,r8⟩
  ·have hm:pE (qs.map Dc) 0 st.ps=0:=mz _ _ _ λ p hp=>by
    rw [EG]
    obtain ⟨f,f1,f2,f3⟩:=ib (qs.map Dc) b (λ o ho=>by obtain ⟨q,hq',rfl⟩:=DM.mp ho; exact hq q hq') (p:=p) (by rw [C6,<-h.pl]; exact hp)
    have k:=r6 f f1 p f2 f3
    unfold isF at k
    cases e:st.ps.getD p none with
    | none=>rfl
    | some z=>
     rw [e] at k
     have:z.1=f:=of_decide_eq_true k
     unfold bad
     simp only
     rw [this,gG f2 f3,if_pos rfl]
   refine .inl ⟨rfl,by rw [r1]; rfl,r2,r3,r4,r5,?_,?_,r6⟩
   ·unfold HW.mis; rw [hd,hm]; rfl
   ·unfold HW.mis; rw [r2,r3,hm]; rfl
  ·refine .inr (.inl ⟨p,z,rfl,by rw [r1]; rfl,r2,r3,r4,r5,r6,r7,r8,?_⟩)
   have k:=li (qs.map Dc) 0 st.ps p none r2
   rw [EG,r3] at k
   have kb:bad (qs.map Dc) p (some z)=1:=by unfold bad; simp only; rw [r4]; rfl
   rw [kb] at k
   unfold HW.mis
   rw [r5,r6,hd]
   show _+1=_+0
   have k0:bad (qs.map Dc) p none=0:=rfl
   lia
 | some z=>
  obtain ⟨h1,h2,h3,h4,h5⟩:=ju h hq hd
  have es:st.step=(some (match st.ps.getD (st.mark z.1) none with | none=>Mv.lay (st.mark z.1) | some _=>Mv.change (st.mark z.1)),st.putG z):=by unfold HW.step; rw [hd]
  rw [es]
  refine .inr (.inr ⟨st.mark z.1,z,rfl,h2,h3,rfl,rfl,rfl,h5,?_,?_⟩)
  ·have k:=li (qs.map Dc) 0 st.ps (st.mark z.1) (some z) h2
   rw [EG] at k
   have kb:bad (qs.map Dc) (st.mark z.1) (some z)=0:=by unfold bad; simp only; rw [h3]; rfl
   rw [kb] at k
   unfold HW.mis
   rw [hd]
   show pE (qs.map Dc) 0 (st.ps.set (st.mark z.1) (some z))+(st.ps.getD (st.mark z.1) none).toList.length+1=_+1
   cases e:st.ps.getD (st.mark z.1) none with
   | none=>
    rw [e] at k
    have:bad (qs.map Dc) (st.mark z.1) none=0:=rfl
    show _+0+1=_
    lia
   | some y=>
    rw [e] at k
    have:bad (qs.map Dc) (st.mark z.1) (some y)=1:=by unfold bad; simp only; rw [h4 y e]; rfl
    show _+1+1=_
    lia
  ·cases e:st.ps.getD (st.mark z.1) none with
   | none=>exact .inl ⟨rfl,rfl⟩
   | some y=>exact .inr ⟨y,rfl,h4 y e,rfl⟩
end
def z4:R2:=λ x y H Q=>y=.non/\Q (.bl (!decide (x=.non))) H
theorem on:QOp X (compareOp .IsNot) z4:=⟨wF⟩
theorem AK {H:Hp} {Q:VK} {x:V} (h:Q (.bl (!decide (x=.non))) H):z4 x .non H Q:=⟨rfl,h⟩
theorem oo (f:Str) (v x:V) (r:List (Str×V)):bG f v ((f,x)::r)=(f,v)::r:=by rw [bG,if_pos rfl]
theorem aW {f g:Str} (v x:V) (r:List (Str×V)) (h:¬ g=f):bG f v ((g,x)::r)=(g,x)::bG f v r:=by rw [bG,if_neg h]
theorem jw {f:Str} {r:List (Str×V)}:E9 f ((f,v)::r)=some v:=by simp [E9]
theorem bj {f g:Str} {r:List (Str×V)} (h:¬ f=g):E9 f ((g,v)::r)=E9 f r:=by
 have:(f == g)=false:=by simpa using h
 simp [E9,this]
def PrV (H:Hp) (v:V) (o:PR):Prop:=match o with | none=>v=.non | some z=>∃ q,v=.ref q/\H q=some (.tup [.int (z.1:Nat),.int (z.2:Nat)])
def PrsAt (H:Hp) (vs:List V) (ps:List PR):Prop:=vs.length=ps.length/\∀ (i:Nat) v o,vs[i]? = some v->ps[i]? = some o->PrV H v o
theorem PrV.same {H:Hp} {o:PR} (h:PrV H v o) (s:Same H H1):PrV H1 v o:=by
 cases o with
 | none=>exact h
 | some z=>obtain ⟨q,e,t⟩:=h; exact ⟨q,e,s _ _ t⟩
theorem PrsAt.same {H H1:Hp} {vs:List V} {ps:List PR} (h:PrsAt H vs ps) (s:Same H H1):PrsAt H1 vs ps:=⟨h.1,λ i v o a b=>(h.2 i v o a b).same s⟩
theorem PrsAt.get {H:Hp} {ps:List PR} (h:PrsAt H vs ps) {p:Nat} (hp:p<ps.length):∃ v,vs[p]? = some v/\PrV H v (ps.getD p none):=by
 have h1:p<vs.length:=by rw [h.1]; exact hp
 refine ⟨vs[p],C4 h1,h.2 p _ _ (C4 h1) ?_⟩
 rw [C5,C4 hp]; rfl
theorem PrsAt.set {H:Hp} {vs:List V} {ps:List PR} (h:PrsAt H vs ps) {p:Nat} {v:V} {o:PR} (hv:PrV H v o):PrsAt H (vs.set p v) (ps.set p o):=by
 refine ⟨by rw [Ew,Ew,h.1],λ i v' o' a b=>?_⟩
 by_cases e:p=i
 ·subst e
  by_cases l:p<vs.length
  ·rw [EH l] at a
   rw [EH (by rw [<-h.1]; exact l)] at b
   cases a; cases b
   exact hv
  ·rw [Ea (by rw [Ew]; lia)] at a; cases a
 ·rw [FJ e] at a b
  exact h.2 i v' o' a b
theorem rJ:¬ (("pairs" : Str) = "held"):=by decide +kernel
theorem vH:¬ (("pairs" : Str) = "marks"):=by decide +kernel
theorem vI:¬ (("pairs" : Str) = "ends"):=by decide +kernel
theorem rK:¬ (("pairs" : Str) = "many_puts"):=by decide +kernel
theorem vJ:¬ (("held" : Str) = "marks"):=by decide +kernel
theorem vK:¬ (("held" : Str) = "ends"):=by decide +kernel
theorem rL:¬ (("held" : Str) = "many_puts"):=by decide +kernel
theorem vL:¬ (("marks" : Str) = "ends"):=by decide +kernel
theorem rM:¬ (("marks" : Str) = "many_puts"):=by decide +kernel
theorem rN:¬ (("ends" : Str) = "many_puts"):=by decide +kernel
noncomputable def hwF (pa:Addr) (hv:V) (ma ea:Addr) (n:Int):List (Str×V):=[("pairs",MU pa),("held",hv),("marks",MU ma),("ends",MU ea),("many_puts",MS n)]
section
variable (pa:Addr) (hv v:V) (ma ea:Addr) (n m:Int)
theorem oq:bG "held" v (hwF pa hv ma ea n)=hwF pa v ma ea n:=by unfold hwF; rw [aW _ _ _ rJ,oo]
theorem uQ:bG "many_puts" (.int m) (hwF pa hv ma ea n)=hwF pa hv ma ea m:=by unfold hwF; rw [aW _ _ _ rK,aW _ _ _ rL,aW _ _ _ rM,aW _ _ _ rN,oo]
theorem xL:bG "many_puts" (.int n) (bG "ends" (.ref ea) (bG "marks" (.ref ma) (bG "held" hv (bG "pairs" (.ref pa) []))))=hwF pa hv ma ea n:=by
 show bG "many_puts" (.int n) (bG "ends" (.ref ea) (bG "marks" (.ref ma) (bG "held" hv [("pairs",MU pa)])))=_
 rw [aW _ _ _ rJ]
 show bG "many_puts" (.int n) (bG "ends" (.ref ea) (bG "marks" (.ref ma) [("pairs",MU pa),("held",hv)]))=_
 rw [aW _ _ _ vH,aW _ _ _ vJ]
 show bG "many_puts" (.int n) (bG "ends" (.ref ea) [("pairs",MU pa),("held",hv),("marks",MU ma)])=_
 rw [aW _ _ _ vI,aW _ _ _ vK,aW _ _ _ vL]
 show bG "many_puts" (.int n) [("pairs",MU pa),("held",hv),("marks",MU ma),("ends",MU ea)]=_
 rw [aW _ _ _ rK,aW _ _ _ rL,aW _ _ _ rM,aW _ _ _ rN]
 rfl
theorem bQ:(hwF pa hv ma ea n).lookup ("pairs" : Str)=some (.ref pa):=jw
theorem fL:(hwF pa hv ma ea n).lookup ("held" : Str)=some hv:=by unfold hwF; rw [bj (DX rJ),jw]
theorem de:(hwF pa hv ma ea n).lookup ("marks" : Str)=some (.ref ma):=by unfold hwF; rw [bj (DX vH),bj (DX vJ),jw]
theorem fM:(hwF pa hv ma ea n).lookup ("ends" : Str)=some (.ref ea):=by unfold hwF; rw [bj (DX vI),bj (DX vK),bj (DX vL),jw]
theorem jx:(hwF pa hv ma ea n).lookup ("many_puts" : Str)=some (.int n):=by unfold hwF; rw [bj (DX rK),bj (DX rL),bj (DX rM),bj (DX rN),jw]
theorem iE {f:Str} (h1:¬ f = "pairs") (h2:¬ f = "held") (h3:¬ f = "marks") (h4:¬ f = "ends") (h5:¬ f = "many_puts"):(hwF pa hv ma ea n).lookup f=none:=by
 unfold hwF
 rw [bj h1,bj h2,bj h3,bj h4,bj h5]; rfl
end
structure HwAt (C:Addr) (H:Hp) (w pa ma ea:Addr) (vs:List V) (hv:V) (st:HW):Prop where
 ob:∃ dx,H w=some (.ins C dx (hwF pa hv ma ea (st.pt:Nat)))
 tp:H pa=some (.lst vs)
 pv:PrsAt H vs st.ps
 hh:PrV H hv st.hd
 tm:H ma=some (.lst (NV st.mks))
 te:H ea=some (.lst (NV st.en))
 n1:pa≠ma
 n2:pa≠ea
 n3:ma≠ea
def KpH (w pa ma:Addr) (H H':Hp):Prop:=∀ b o,H b=some o->b≠w->b≠pa->b≠ma->H' b=some o
theorem KpH.refl (w pa ma:Addr) (H:Hp):KpH w pa ma H H:=λ _ _ e _ _ _=>e
theorem KpH.trans {w:Addr} {H H2:Hp} (a:KpH w pa ma H H1) (b:KpH w pa ma H1 H2):KpH w pa ma H H2:=λ c o e x y z=>b c o (a c o e x y z) x y z
theorem KpH.of {w:Addr} {H:Hp} (s:Same H H1):KpH w pa ma H H1:=λ c o e _ _ _=>s c o e
section
variable {C:Addr} {H H1:Hp} {w pa ma ea:Addr} {vs:List V} {hv:V} {st:HW}
theorem HwAt.same (h:HwAt C H w pa ma ea vs hv st) (s:Same H H1):HwAt C H1 w pa ma ea vs hv st:=by
 obtain ⟨dx,e⟩:=h.ob
 exact ⟨⟨dx,s _ _ e⟩,s _ _ h.tp,h.pv.same s,h.hh.same s,s _ _ h.tm,s _ _ h.te,h.n1,h.n2,h.n3⟩
theorem HwAt.wp (h:HwAt C H w pa ma ea vs hv st):w≠pa:=by
 obtain ⟨dx,e⟩:=h.ob
 exact cB e h.tp (by intro z; cases z)
theorem HwAt.wm (h:HwAt C H w pa ma ea vs hv st):w≠ma:=by
 obtain ⟨dx,e⟩:=h.ob
 exact cB e h.tm (by intro z; cases z)
theorem HwAt.we (h:HwAt C H w pa ma ea vs hv st):w≠ea:=by
 obtain ⟨dx,e⟩:=h.ob
 exact cB e h.te (by intro z; cases z)
theorem KpH.tup (h:HwAt C H w pa ma ea vs hv st) (k:KpH w pa ma H H1) {q:Addr} {xs:List V} (t:H q=some (.tup xs)):H1 q=some (.tup xs):=by
 obtain ⟨dx,e⟩:=h.ob
 exact k _ _ t (cB t e (by intro z; cases z)) (cB t h.tp (by intro z; cases z)) (cB t h.tm (by intro z; cases z))
theorem PrV.kp (h:HwAt C H w pa ma ea vs hv st) (k:KpH w pa ma H H1) {o:PR} (p:PrV H v o):PrV H1 v o:=by
 cases o with
 | none=>exact p
 | some z=>obtain ⟨q,e,t⟩:=p; exact ⟨q,e,k.tup h t⟩
theorem PrsAt.kp (h:HwAt C H w pa ma ea vs hv st) (k:KpH w pa ma H H1) {us:List V} {ps:List PR} (p:PrsAt H us ps):PrsAt H1 us ps:=⟨p.1,λ i v o a b=>(p.2 i v o a b).kp h k⟩
theorem KpH.upM (h:HwAt C H w pa ma ea vs hv st) :KpH w pa ma H (upd H ma o):=λ b u e _ _ n=>by rw [af n]; exact e
theorem KpH.upP (h:HwAt C H w pa ma ea vs hv st) :KpH w pa ma H (upd H pa o):=λ b u e _ n _=>by rw [af n]; exact e
theorem KpH.upW (h:HwAt C H w pa ma ea vs hv st) :KpH w pa ma H (upd H w o):=λ b u e n _ _=>by rw [af n]; exact e
theorem HwAt.setM (h:HwAt C H w pa ma ea vs hv st) (ms:List Nat):HwAt C (upd H ma (.lst (NV ms))) w pa ma ea vs hv { st with mks:=ms }:=by
 obtain ⟨dx,e⟩:=h.ob
 exact ⟨⟨dx,by rw [af h.wm]; exact e⟩,by rw [af h.n1]; exact h.tp,h.pv.kp h (KpH.upM h),h.hh.kp h (KpH.upM h),ab,by rw [af (DX h.n3)]; exact h.te,h.n1,h.n2,h.n3⟩
theorem HwAt.setP (h:HwAt C H w pa ma ea vs hv st) {us:List V} {qs:List PR} (hu:PrsAt H us qs):HwAt C (upd H pa (.lst us)) w pa ma ea us hv { st with ps:=qs }:=by
 obtain ⟨dx,e⟩:=h.ob
 exact ⟨⟨dx,by rw [af h.wp]; exact e⟩,ab,hu.kp h (KpH.upP h),h.hh.kp h (KpH.upP h),by rw [af (DX h.n1)]; exact h.tm,by rw [af (DX h.n2)]; exact h.te,h.n1,h.n2,h.n3⟩
theorem HwAt.setW (h:HwAt C H w pa ma ea vs hv st) {dx:Addr} {u:V} {o:PR} (hu:PrV H u o):HwAt C (upd H w (.ins C dx (hwF pa u ma ea (n:Nat)))) w pa ma ea vs u { st with hd:=o,pt:=n }:=
 ⟨⟨dx,ab⟩,by rw [af (DX h.wp)]; exact h.tp,h.pv.kp h (KpH.upW h),hu.kp h (KpH.upW h),by rw [af (DX h.wm)]; exact h.tm,by rw [af (DX h.we)]; exact h.te,h.n1,h.n2,h.n3⟩
end
noncomputable def hw0 (qs:List (Nat×Nat)) (b:Nat):HW:=⟨qs.map some,none,(C9 b).map λ f=>ai (qs.map Dc) f,(C9 b).map λ f=>ai (qs.map Dc) (f+1),0⟩
theorem xM (qs:List (Nat×Nat)):fm (qs.map some)=qs:=by
 unfold fm
 rw [Hs]
 exact JA
theorem ot (qs:List (Nat×Nat)) (b:Nat):HwOk qs b (hw0 qs b):=by
 have hg:∀ f,f<b->(hw0 qs b).mks.getD f 0=ai (qs.map Dc) f:=λ f hf=>by
  show ((C9 b).map λ f=>ai (qs.map Dc) f).getD f 0=_
  rw [C5,De,Eg hf]; rfl
 refine ⟨rfl,by simp [hw0],λ f hf=>?_,λ f hf p h1 h2=>?_,by simp [hw0],?_⟩
 ·rw [hg f hf]
  exact ⟨C8 _,bn (FO f)⟩
 ·rw [hg f hf] at h2
  lia
 ·show (fm (qs.map some)++[]).Perm qs
  rw [xM,Ef]
theorem PrV.th {H:Hp} {o:PR} (h:PrV H v o):Th H v:=by
 cases o with
 | none=>exact .inl (.inl h)
 | some z=>
  obtain ⟨q,rfl,t⟩:=h
  exact .inr ⟨q,_,rfl,t,by simp,by simp,λ x hx=>by
   rcases Dx.mp hx with rfl | hx
   ·exact .inr (.inr (.inl ⟨_,rfl⟩))
   ·rw [Dk.mp hx]; exact .inr (.inr (.inl ⟨_,rfl⟩))⟩
theorem PrV.copy {H:Hp} {o:PR} (h:PrV H v o) (e:ThE H v y):PrV H y o:=by
 cases o with
 | none=>
  have hv:v=.non:=h
  rcases e with ⟨_,e⟩ | ⟨t,u,xs,e,_⟩
  ·rw [e]; exact h
  ·rw [hv] at e; cases e
 | some z=>
  obtain ⟨q,rfl,t⟩:=h
  rcases e with ⟨hs,e⟩ | ⟨t',u,xs,e,e2,h1,h2,_⟩
  ·rcases hs with z | ⟨_,z⟩ | ⟨_,z⟩ | ⟨_,z⟩<;>cases z
  ·cases e
   rw [t] at h1
   cases h1
   exact ⟨u,e2,h2⟩
noncomputable def MvV (H:Hp) (v:V):Option Mv->Prop
 | none=>v=.non
 | some (.take p)=>∃ q,v=.ref q/\H q=some (.tup [.str "take",.int (p:Nat)])
 | some (.lay p)=>∃ q,v=.ref q/\H q=some (.tup [.str "lay",.int (p:Nat)])
 | some (.change p)=>∃ q,v=.ref q/\H q=some (.tup [.str "change",.int (p:Nat)])
structure HwB (st:HW):Prop where
 ml:st.mks.length=st.en.length
 mb:∀ f,f<st.en.length->st.mks.getD f 0<=st.en.getD f 0/\st.en.getD f 0<=st.ps.length
theorem HwOk.bd {qs:List (Nat×Nat)} {st:HW} (h:HwOk qs b st):HwB st:=
 ⟨by rw [h.ml,h.el],λ f hf=>by
  rw [h.el] at hf
  rw [h.eg hf]
  exact ⟨(h.lo f hf).2,h.less _⟩⟩
theorem HwB.marked {st:HW} (h:HwB st) {f:Nat} (hf:f<st.en.length):HwB (st.marked f):=by
 refine ⟨by show (st.mks.set f _).length=_; rw [Ew]; exact h.ml,λ g hg=>?_⟩
 show (st.mks.set f (st.mark f)).getD g 0<=_/\_
 refine ⟨?_,(h.mb g hg).2⟩
 by_cases e:f=g
 ·subst e
  rw [bB (by rw [h.ml]; exact hf)]
  exact (mw _ (h.mb f hf).1).2.1
 ·rw [ck e]; exact (h.mb g hg).1
theorem lj {ns:List Nat} (h:f<ns.length):ns[f]? = some (ns.getD f 0):=by
 rw [C5,C4 h]; rfl
theorem PrsAt.snoc {H:Hp} {ps:List PR} {o:PR} (h:PrsAt H vs ps) (hv:PrV H v o):PrsAt H (vs++[v]) (ps++[o]):=by
 refine ⟨by rw [Dg,Dg,h.1]; rfl,λ i u x a b=>?_⟩
 by_cases l:i<vs.length
 ·rw [Do l] at a
  rw [Do (by rw [<-h.1]; exact l)] at b
  exact h.2 i u x a b
 ·rw [Dy (by lia)] at a
  rw [Dy (by rw [<-h.1]; lia),<-h.1] at b
  have hi:i - vs.length=0:=by
   have:=aR a
   simp at this; lia
  rw [hi] at a b
  cases a; cases b
  exact hv
def PsT (H:Hp) (rs:List Addr) (qs:List (Nat×Nat)):Prop:=rs.length=qs.length/\∀ (i:Nat) a z,rs[i]? = some a->qs[i]? = some z->H a=some (.tup [.int (z.1:Nat),.int (z.2:Nat)])
theorem PsT.same {H:Hp} {qs:List (Nat×Nat)} (h:PsT H rs qs) (s:Same H H1):PsT H1 rs qs:=⟨h.1,λ i a z x y=>s _ _ (h.2 i a z x y)⟩
theorem gH (f:Str) (v:V):∀ fs:List (Str×V),(bG f v fs).length<=fs.length+1
 | []=>C8 _
 | (g,x)::r=>by
  rw [bG]
  have:=gH f v r
  split<;>simp<;>lia
noncomputable def Mv.pl:Mv->Nat
 | .take p=>p
 | .lay p=>p
 | .change p=>p
noncomputable def Mv.wd:Mv->Str
 | .take _=>"take"
 | .lay _=>"lay"
 | .change _=>"change"
theorem MvV.some {H:Hp} {v:V} {m:Mv} (h:MvV H v (some m)):∃ q,v=.ref q/\H q=Option.some (.tup [.str m.wd,.int (m.pl:Nat)]):=by
 cases m<;>exact h
noncomputable def HW.mu (os:List Nat) (st:HW):Nat:=2*st.mis os - st.hd.toList.length
theorem ll {qs:List (Nat×Nat)} {st:HW} (h:HwOk qs b st) (hq:∀ q∈qs,q.1<b):st.step.1=none\/st.step.2.mu (qs.map Dc)+1<=st.mu (qs.map Dc):=by
 have hl:∀ o:PR,o.toList.length<=1:=λ o=>by cases o<;>simp
 rcases dG h hq with ⟨_,e,_⟩ | ⟨p,z,h1,_,_,_,_,h2,_,_,_,h3⟩ | ⟨p,z,h1,_,_,_,h2,_,_,h3,_⟩
 ·exact .inl e
 ·right
  unfold HW.mu
  have:st.step.2.mis (qs.map Dc)>=1:=by unfold HW.mis; rw [h2]; simp
  rw [h3] at this
  rw [h3,h1,h2]
  show 2*_ - 1+1<=2*_ - 0
  lia
 ·right
  unfold HW.mu
  rw [h1]
  have:=hl st.step.2.hd
  show _<=2*_ - 1
  lia
end L2
open L2.Mv renaming change→MY
namespace HT
open PySem PyProof.Rows PySem.W L2
section
open PySem.SeqAt
open PySem.AutoSeq1 (wpAny_loadPart')
open PySem.MeetsSeq PySem.MeetsSeq2 PySem.MeetsSeq3
end
section
variable {prog:Program} {w:World} {A:Around} {E:Value->Shared->Prop} {s:Shared}
end
end HT
namespace L2
open PySem PySem.Spec PyProof.Rows
section
variable {X:Cx}
end
noncomputable abbrev HP:=List Nat×Nat
noncomputable def hlt (x y:HP):Bool:=HT.lt2 (cQ x.1,[(x.2:Int)]) (cQ y.1,[(y.2:Int)])
noncomputable def hd (L:List (List (List Nat))) (ms:List Nat) (i:Nat):Option HP:=((L.getD i [])[ms.getD i 0]?).map λ r=>(r,i)
section
variable {prog:Program} {w:World} {A:Around} {R:Result->Shared->Prop} {s:Shared} {scope:Scope}
end
section
variable {X:Cx} {N tgs frs:List Str} {ix:List Nat} {scope:Scope} {cl:List (Str×Addr)}
end
section
variable {K:C7} {g g2:TG} {wi2:TI} {te:TE} {σ0:St} {H:Hp} {R:List V->Hp->Prop}
end
inductive RMv where
 | take (p:Nat)
 | move (p q:Nat)
 | lay (p:Nat)
def BS (H H':Hp):Prop:=∀ b xs,H b=some (.tup xs)->H' b=some (.tup xs)
section
variable {H H1:Hp} {v y:V} {d:PyData}
variable {vs us rs:List V} {ds:List PyData}
end
section
variable (ta:Addr) (hv v:V) (pa:Addr) (n m:Int)
end
section
variable {C:Addr} {H H1:Hp} {w ta pa:Addr} {ps:List Addr} {us:List V} {hv:V} {ms:List RMv} {d:Nat}
end
section
variable {X:Cx} {e:Expr} {es:List Expr} {t:TA} {pos p:Pos} {x:Str} {C f:Addr}
end
end L2
namespace HT
open PySem PySem.Spec PyProof.Rows PySem.W L2
section
variable {prog:Program} {w:World} {A:Around} {E:Value->Shared->Prop} {s:Shared}
end
end HT
namespace L2
open PySem PySem.Spec PyProof.Rows
section
variable {X:Cx}
end
noncomputable def CW (s:List V×V):List V:=(s.1++[s.2]).filter (λ v=>decide (v≠MV))
noncomputable def turn (r:List Nat):List Nat:=r.take 1++(r.drop 1).reverse
section
variable {H H1:Hp} {v y z:V} {d e:Option (List Nat×Nat)}
variable {vs us rs:List V}
end
section
variable {C:Addr} {H H1:Hp} {w ta pa:Addr} {ps:List Addr} {us:List V} {hv:V} {ms:List RMv} {d:Nat}
end
section
variable {H H1:Hp} {vs us:List V} {ds:List (List Nat×Nat)} {v:V} {d:List Nat×Nat}
end
section
variable {X:Cx} {e:Expr} {te:TE} {pos p1 p2 p3 p4 p5:Pos} {j j':Nat}
end
end L2
namespace HT
open PySem PyProof.Rows PySem.W L2
section
variable {prog:Program} {w:World} {A:Around} {E:Value->Shared->Prop}
end
end HT
namespace L2
open PySem PySem.Spec PyProof.Rows PySem.W
section
variable {X:Cx}
variable {o e:Expr} {to:TE} {t:TA} {apos cpos:Pos}
end
section
variable {X:Cx}
end
end L2
namespace HT
open PySem PyProof.Rows PySem.W L2
section
variable {prog:Program} {w:World} {A:Around} {E:Value->Shared->Prop} {s:Shared}
end
section
variable {prog:Program} {w:World} {A:Around} {E:Value->Shared->Prop} {s:Shared}
theorem nh {v:Value} 
  (h:wpAny (model prog w) A.in1 (collect v) (λ vs s1=>vs.length<1000/\∃ (κ:SortKind) (lt:Nat->Nat->Bool),Lt lt/\
   (∀ h' (Q':SortKind->Shared->Prop),2<=vs.length->(∀ b o,s1.heap.get? b=some o->h'.get? b=some o)->Q' κ { s1 with heap:=h' }->wpAny (model prog w) A.in1.in1 (keyKind' vs.toArray) Q' (λ _ _=>False) { s1 with heap:=h' })/\
   (∀ h' i j (Q':Bool->Shared->Prop),i<vs.length->j<vs.length->(∀ b o,s1.heap.get? b=some o->h'.get? b=some o)->Q' (lt i j) { s1 with heap:=h' }->
    wpAny (model prog w) A.in1.in1 (keyLt' κ (vs.getD i D8) (vs.getD j D8)) Q' (λ _ _=>False) { s1 with heap:=h' })/\
   ∀ p:List Nat,p.Perm (C9 vs.length)->p.Pairwise (Ah lt)->Q (.ref s1.heap.objs.size) { s1 with heap:=sortedHeap (s1.heap.push (seqObj "list" vs.toArray 0)) s1.heap.objs.size vs (DA (p.map λ i=>vs.getD i D8)) }) E s) :
  wpAny (model prog w) A (call (.builtin "sorted") [v]) Q E s:=by
 refine Iq kind_sorted plain_sorted entry_sorted (args_sorted1 _) ?_
 unfold Builtin.«sorted»
 refine wpAny_bind (m:=checkCount "sorted" 1 1 _) (wpAny_pure ?_)
 refine wpAny_bind (wpAny_mono h (λ vs s1 hv=>?_) λ _ _ z=>z)
 obtain ⟨h64,κ,lt,hL,hk,hc,hq⟩:=hv
 refine wpAny_bind (wpAny_newList ?_ (by rw [sizeLine_eq]; lia))
 have hoL:(s1.heap.push (seqObj "list" vs.toArray 0)).get? s1.heap.objs.size=some (seqObj "list" vs.toArray 0):=DB _ rfl
 have ne:∀ b o,s1.heap.get? b=some o->b≠s1.heap.objs.size:=λ b o q=>Dw (Dp q)
 show wpAny _ _ _ _ _ { s1 with heap:=s1.heap.push (seqObj "list" vs.toArray 0) }
 refine wpAny_bind (wpAny_holding (wpAny_call_entry slot_list_sort ⟨_,hoL,rfl⟩ entry_list_sort (gD (s:={ s1 with heap:=s1.heap.push (seqObj "list" vs.toArray 0) }) hoL h64 hL
  (λ h' Q' h2 k q=>hk h' Q' h2 (λ b o e=>k b o (ne b o e) (Dd _ e)) q) (λ h' i j Q' hi hj k q=>hc h' i j Q' hi hj (λ b o e=>k b o (ne b o e) (Dd _ e)) q) λ p a1 a2=>⟨_,rfl,?_⟩) (args_list_sort _)))
 exact wpAny_pure ⟨_,rfl,hq p a1 a2⟩
end
end HT
namespace L2
open PySem PySem.Spec PyProof.Rows PySem.W
section
variable {X:Cx} {pins:List (Addr×Obj)} {σ:St} {H:Hp} {s:Shared} {h':Heap}
end
section
variable {X:Cx} {o e f:Expr} {td ty tx:TE} {pos apos cpos p:Pos}
end
end L2
namespace HT
open PySem PyProof.Rows PySem.W L2
def Ris (l:List Nat):Prop:=l.Pairwise (· < ·)
def z5 (xs:Array Nat) (j r:Nat):Prop:=r<=xs.size/\(∀ i v,xs[i]? = some v->i<r->v<j)/\∀ i v,xs[i]? = some v->r<=i->j<=v
theorem ou {xs:Array Nat} (h:Ris xs.toList) {v u:Nat} (e1:xs[i]? = some v) (e2:xs[k]? = some u) (hik:i<k):v<u:=by
 rw [<-EO] at e1 e2
 obtain ⟨h1,rfl⟩:=DQ.mp e1
 obtain ⟨h2,rfl⟩:=DQ.mp e2
 exact (DK.mp h) i k h1 h2 hik
theorem ln {xs:Array Nat} {j:Nat} (h:Ris xs.toList):∀ (fuel lo hi:Nat),hi - lo<=fuel->lo<=hi->hi<=xs.size->(∀ i v,xs[i]? = some v->i<lo->v<j)->(∀ i v,xs[i]? = some v->hi<=i->j<=v)->z5 xs j (Ka xs j fuel lo hi)
 | 0,lo,hi,hf,hl,hs,h1,h2=>by
  have e:lo=hi:=by lia
  subst e
  exact ⟨hs,h1,h2⟩
 | fuel+1,lo,hi,hf,hl,hs,h1,h2=>by
  unfold Ka
  by_cases hlt:lo<hi
  ·rw [if_pos hlt]
   dsimp only
   have hm:(lo+hi) / 2<xs.size:=by lia
   have em:xs[(lo+hi) / 2]? = some xs[(lo+hi) / 2]:=by simp [hm]
   have eg:xs.getD ((lo+hi) / 2) j=xs[(lo+hi) / 2]:=by simp [DI,hm]
   rw [eg]
   by_cases g:xs[(lo+hi) / 2]<j
   ·rw [if_pos g]
    refine ln h fuel _ hi (by lia) (by lia) hs (λ i v e hi'=>?_) h2
    by_cases ei:i=(lo+hi) / 2
    ·subst ei; rw [em] at e; cases e; exact g
    ·exact IG (ou h e em (by lia)) g
   ·rw [if_neg g]
    refine ln h fuel lo _ (by lia) (by lia) (by lia) h1 (λ i v e hi'=>?_)
    by_cases ei:i=(lo+hi) / 2
    ·subst ei; rw [em] at e; cases e; lia
    ·have:=ou h em e (by lia); lia
  ·rw [if_neg hlt]
   have e:lo=hi:=by lia
   subst e
   exact ⟨hs,h1,h2⟩
theorem jy {xs:Array Nat} (h:Ris xs.toList) (j:Nat):z5 xs j (Fw xs j):=by
 unfold Fw
 exact ln h _ 0 xs.size (by lia) (Du _) (C8 _) (λ i v _ hi=>by lia) λ i v e hi=>by
  have:=(Array.getElem?_eq_some_iff.mp e).1
  lia
theorem lp {α:Type} (xs:Array α) (p:Nat) (x:α):(Il xs p x).toList=xs.toList.take p++x::xs.toList.drop p:=by
 unfold Il
 simp [E5]
 exact Da (by rw [DU,DT]; exact C8 _)
theorem pF {xs:Array Nat} (h:Ris xs.toList) (hn:xs[Fw xs j]?≠some j):Ris (Il xs (Fw xs j) j).toList:=by
 obtain ⟨p1,p2,p3⟩:=jy h j
 rw [lp]
 generalize Fw xs j=r at *
 have ta:∀ v∈xs.toList.take r,v<j:=λ v hv=>by
  obtain ⟨i,hi,rfl⟩:=Eh hv
  rw [Df] at hi
  rw [Gq]
  exact p2 i _ (by rw [<-EO]; exact C4 _) (by lia)
 have dr:∀ v∈xs.toList.drop r,j<v:=λ v hv=>by
  obtain ⟨i,hi,rfl⟩:=Eh hv
  rw [DU] at hi
  rw [Gp]
  have e:xs[r+i]? = some (xs.toList[r+i]'(by lia)):=by rw [<-EO]; exact C4 _
  have h1:=p3 (r+i) _ e (by lia)
  rcases El j (xs.toList[r+i]'(by lia)) with q | q
  ·exact q
  ·have e2:xs.toList[r+i]'(by lia)=j:=by lia
   rw [e2] at e
   by_cases z:i=0
   ·subst z; exact absurd e hn
   ·have hr:r<xs.size:=by rw [DT] at hi; lia
    have e3:xs[r]? = some xs[r]:=by simp [hr]
    have:=ou h e3 e (by lia)
    have:=p3 r _ e3 (C8 _)
    lia
 unfold Ris at *
 rw [Dq]
 refine ⟨h.sublist (FC _ _),Em.mpr ⟨dr,h.sublist (GN _ _)⟩,λ a ha b hb=>?_⟩
 rcases Dx.mp hb with q | q
 ·rw [q]; exact ta a ha
 ·exact IG (ta a ha) (dr b q)
def jz (t:SetTable) (j:Nat):Prop:=t.place[Fw t.place j]?≠some j
theorem iF {t:SetTable} (h:t.slot j=.empty\/t.slot j=.dummy):jz t j:=by
 intro e
 unfold ML at h
 dsimp only at h
 rw [e] at h
 simp at h
theorem dP {t:SetTable} {f:Nat->Int} {h:Int}:∀ (fuel:Nat) (p:KP) (j:Nat) (dm:Option Nat),(∀ d,p.dummy=some d->jz t d)->Im t f h fuel p=some (.empty j dm)->jz t j/\∀ d,dm=some d->jz t d
 | 0,p,j,dm,_,e=>by unfold Im at e; cases e
 | fuel+1,p,j,dm,hp,e=>by
  unfold Im at e
  have adv:∀ q:KP,(t.advance q).dummy=q.dummy:=λ q=>by
   unfold MI
   split<;>rfl
  cases hs:t.slot p.j with
  | empty=>
   simp only [hs] at e
   cases e
   exact ⟨iF (.inl hs),hp⟩
  | dummy=>
   simp only [hs] at e
   refine dP fuel _ j dm (λ d hd=>?_) e
   rw [adv] at hd
   cases hd
   exact iF (.inr hs)
  | live i=>
   simp only [hs] at e
   split at e
   ·cases e
   ·exact dP fuel _ j dm (λ d hd=>by rw [adv] at hd; exact hp d hd) e
theorem mB {t:SetTable} {h:Int} {b:Bool} (e:t.freeSlot h=some (j,b)):jz t j:=by
 unfold MB at e
 split at e
 ·rename_i j' dm hp
  obtain ⟨h1,h2⟩:=dP _ _ _ _ (λ d hd=>by cases hd) hp
  cases e
  cases dm with
  | none=>exact h1
  | some d=>exact h2 d rfl
 ·cases e
theorem mC (n:Nat):Ris (Array.range n).toList:=by
 rw [Array.toList_range]
 exact GQ
theorem eY {t:SetTable} :Ris (t.standIn n).place.toList/\(t.standIn n).led=t.led:=⟨mC n,rfl⟩
theorem ni {t:SetTable} {es:Array (Int×Value)} {h:Int} {x:Value} (g:Ris t.place.toList):Ris (layNew t es h x).2.1.place.toList/\(layNew t es h x).2.1.led=t.led:=by
 unfold layNew
 split
 ·rename_i j b e
  dsimp only
  unfold Mt
  split
  ·exact ⟨pF g (mB e),rfl⟩
  ·exact ⟨mC _,rfl⟩
 ·exact eY
theorem pG {t:SetTable} {es:Array (Int×Value)} :Ris (relayAll t es n).2.1.place.toList/\(relayAll t es n).2.1.led=t.led:=by
 unfold relayAll
 split
 ·rename_i t' order e
  dsimp only
  split
  ·unfold MJ MM at e
   cases ho:MD (HH n - 1) (es.map (·.1)) with
   | none=>rw [ho] at e; cases e
   | some owner=>
    rw [ho] at e
    cases e
    refine ⟨?_,rfl⟩
    show Ris (((C9 (HH n - 1+1)).filterMap λ j=>(owner.getD j none).map (j,·)).map (·.1)).toArray.toList
    unfold Ris
    rw [List.toList_toArray,Fk,List.pairwise_filterMap]
    refine (GQ (n:=HH n - 1+1)).imp λ {a b} hab x hx y hy=>?_
    obtain ⟨_,_,rfl⟩:=EI.mp hx
    obtain ⟨_,_,rfl⟩:=EI.mp hy
    exact hab
  ·exact eY
 ·exact eY
noncomputable def jA (w:World):Bool:=w.params.followText "set-order"
def Go (prog:Program) (w:World) (es:Array (Int×Value)) (t:SetTable) (ks:List Int):Prop:=
 ElemsOf (intKind prog w) es.toList/\(∀ k,k∈ks↔∃ e∈es.toList,(intKind prog w).is k e.2=true)/\es.size<scanBound/\t.fits es.size=true/\es.size=ks.length/\ks.Nodup/\Ris t.place.toList/\t.led=!jA w
def SetG (prog:Program) (w:World) (h:Heap) (a:Addr) (ks:List Int):Prop:=∃ o es ep t,h.get? a=some o/\o.ExactSet/\o.data=.set es ep t/\Go prog w es t ks
theorem SetG.at {prog:Program} {w:World} {g:Heap} {ks:List Int} (x:SetG prog w h a ks) (k:∀ o,h.get? a=some o->g.get? a=some o):SetG prog w g a ks:=by
 obtain ⟨o,es,ep,t,e,r⟩:=x
 exact ⟨o,es,ep,t,k o e,r⟩
section
variable {prog:Program} {w:World} {A:Around} {E:Value->Shared->Prop} {s:Shared}
theorem rO {o:Obj} {es es1:Array (Int×Value)} {t t1:SetTable} (ho:h.get? a=some o) (hd:o.data=.set es ep t):(h.update a (KG es1 t1)).get? a=some { o with data:=.set es1 (ep+1) t1 }:=by
 have:=Gv (KG es1 t1) ho (by rw [putSet_of es1 t1 hd]; rfl)
 rw [putSet_of es1 t1 hd] at this
 exact this
theorem uR {ks:List Int} {k:Int} {x:Value} {Q:Bool->Shared->Prop} (hkey:(intKind prog w).is k x=true) (hsc:x.scannable=true) (hS:SetG prog w s.heap a ks) (hroom:ks.length+1<scanBound)
  (h:∀ g b,Gr a s.heap g->SetG prog w g a (step_dedup ks k)->Q b { s with heap:=g }):wpAny (model prog w) A (setAddHashed a x ((intKind prog w).hash k)) Q E s:=by
 obtain ⟨o,es,ep,t,ho,hx,hd,hel,hmem,hb,hf,hn,hnd,hr,hl⟩:=hS
 unfold setAddHashed setAddHashedIn
 refine wpAny_holding (wpAny_bind (wpAny_setState_of ho hd hf ?_))
 dsimp only
 rw [byScan_of hsc hb hel]
 simp only [↓reduceIte]
 unfold setAddByScan
 refine wpAny_bind (wpAny_bind (wpAny_rule (wpAny_bind (wpAny_setScan_of hkey ho hd hf hel ?_))))
 cases hi:List.findIdx? (λ e=>(intKind prog w).is k e.2) es.toList with
 | some j=>
  dsimp only
  obtain ⟨hj,hpj,_⟩:=List.findIdx?_eq_some_iff_getElem.mp hi
  have hk:k∈ks:=(hmem k).mpr ⟨_,Dl hj,hpj⟩
  refine wpAny_pure (wpAny_pure ?_)
  have ed:step_dedup ks k=ks:=by unfold step_dedup; rw [if_pos (GW.mpr ⟨k,hk,by simp⟩)]
  have:=h s.heap false (JX a s.heap) (by rw [ed]; exact ⟨o,es,ep,t,ho,hx,hd,hel,hmem,hb,hf,hn,hnd,hr,hl⟩)
  exact this
 | none=>
  dsimp only
  have hk:k∉ks:=λ q=>by
   obtain ⟨e,he,hp⟩:=(hmem k).mp q
   have:=List.findIdx?_eq_none_iff.mp hi e he
   rw [hp] at this
   cases this
  have ed:step_dedup ks k=ks++[k]:=by
   unfold step_dedup
   rw [if_neg]
   intro q
   obtain ⟨z,hz,ez⟩:=GW.mp q
   rw [beq_iff_eq] at ez
   subst ez
   exact hk hz
  rw [ed] at h
  have hpm:=layNew_perm t es ((intKind prog w).hash k) x
  have hft:=layNew_fits t es ((intKind prog w).hash k) x
  have hgd:=ni (es:=es) (h:=(intKind prog w).hash k) (x:=x) hr
  generalize layNew t es ((intKind prog w).hash k) x=L at hpm hft hgd ⊢
  obtain ⟨es1,t1,wd,gave⟩:=L
  dsimp only at hpm hft hgd ⊢
  rw [FF] at hpm
  have sz1:es1.size=ks.length+1:=by rw [<-DT,hpm.length_eq,Dg,DT,hn]; rfl
  -- whatever the table,what is rO is good
  have good:∀ (es2:Array (Int×Value)) (t2:SetTable),es2.toList.Perm es1.toList->t2.fits es2.size=true->Ris t2.place.toList->t2.led=t1.led->Go prog w es2 t2 (ks++[k]):=λ es2 t2 p2 f2 r2 l2=>by
   have p3:=p2.trans hpm
   have sz2:es2.size=ks.length+1:=by rw [<-DT,p2.length_eq,DT,sz1]
   refine ⟨(hel.push hkey hsc).perm p3,λ k'=>?_,by lia,f2,by rw [sz2]; simp,J8.mpr ⟨hnd,Ga _ _,λ a ha b hb e=>?_⟩,r2,by rw [l2,hgd.2,hl]⟩
   ·rw [DG,hmem k',Dk]
    constructor
    ·rintro (⟨e,he,q⟩ | rfl)
     ·exact ⟨e,p3.mem_iff.mpr (D3 _ he),q⟩
     ·exact ⟨_,p3.mem_iff.mpr (Dj _ (List.mem_singleton_self _)),hkey⟩
    ·rintro ⟨e,he,q⟩
     rcases DG.mp (p3.mem_iff.mp he) with z | z
     ·exact .inl ⟨e,z,q⟩
     ·rw [Dk.mp z] at q
      exact .inr ((intKind prog w).inj _ _ _ q hkey)
   ·rw [Dk.mp hb] at e
    exact hk (e▸ha)
  have tail:∀ (t2:SetTable),t2.fits es1.size=true->Ris t2.place.toList->t2.led=t1.led->∀ (gw:Bool->Sem Unit),(∀ (b:Bool) (s₁:Shared) (Q':Unit->Shared->Prop),Q' () s₁->wpAny (model prog w) A (gw b) Q' E s₁)->∀ (R:Option Bool->Shared->Prop),(∀ g,Gr a s.heap g->SetG prog w g a (ks++[k])->R (some true) { s with heap:=g })->
    wpAny (model prog w) A (do
     storeSet a es1 t2
     if (!wd && t2.tooFull)=true then do
       gw (relayAll t2 es1 (FP es1.size)).2.2
       storeSet a (relayAll t2 es1 (FP es1.size)).1 (relayAll t2 es1 (FP es1.size)).2.1
       pure (some true)
      else pure (some true)) R E s:=λ t2 f2 r2 l2 gw hgw R hR=>by
   refine wpAny_bind (wpAny_storeSet_of ho hd ?_ (fits_of_scanBound (by lia)))
   have ho1:=rO (es1:=es1) (t1:=t2) ho hd
   have sb1:=FX s.heap a (KG es1 t2)
   split
   ·have hp:=relayAll_perm t2 es1 (FP es1.size)
    have hfr:=relayAll_fits t2 es1 (FP es1.size)
    have hrg:=pG (t:=t2) (es:=es1) (n:=FP es1.size)
    generalize relayAll t2 es1 (FP es1.size)=Rl at hp hfr hrg ⊢
    obtain ⟨es2,t3,gave2⟩:=Rl
    dsimp only at hp hfr hrg ⊢
    have sz2:es2.size=es1.size:=by rw [<-DT,hp.length_eq,DT]
    refine wpAny_bind (hgw _ _ _ (wpAny_bind (wpAny_storeSet_of ho1 rfl ?_ (fits_of_scanBound (by lia)))))
    exact wpAny_pure (hR _ (sb1.trans (FX _ a _)) ⟨_,es2,_,t3,rO ho1 rfl,hx,rfl,good es2 t3 hp hfr hrg.1 (by rw [hrg.2,l2])⟩)
   ·exact wpAny_pure (hR _ sb1 ⟨_,es1,_,t2,ho1,hx,rfl,good es1 t2 (D0 _) f2 r2 l2⟩)
  have gwOk:∀ (b:Bool) (s₁:Shared) (Q':Unit->Shared->Prop),Q' () s₁->wpAny (model prog w) A (match b with | true=>rule "set.scan.the-table-gave-way" | false=>pure ()) Q' E s₁:=λ b s₁ Q' hq=>by cases b<;>first | exact wpAny_pure hq | exact wpAny_rule hq
  refine wpAny_bind (gwOk _ _ _ ?_)
  split
  ·refine wpAny_bind ?_
   rw [hashByValue_scannable 8 hsc]
   refine wpAny_pure ?_
   refine tail _ ?_ ?_ ?_ _ gwOk _ λ g sb hg=>?_
   ·split
    ·exact hft
    ·exact LU hft
   ·split<;>exact hgd.1
   ·split<;>rfl
   ·dsimp only; exact wpAny_pure (h g _ sb hg)
  ·refine wpAny_bind (wpAny_pure ?_)
   simp only [↓reduceIte]
   refine tail _ hft hgd.1 rfl _ gwOk _ λ g sb hg=>?_
   dsimp only
   exact wpAny_pure (h g _ sb hg)
end
section
variable {prog:Program} {w:World} {A:Around} {E:Value->Shared->Prop} {s:Shared}
theorem uS {R:Result->Shared->Prop} {I S:Addr} {wr:List Addr} {P:Nat->Value->Prop} {St:Nat->Heap->Prop} (W:Walks prog w A.in1 I fp wr n P St) (hSf:S∉fp) (val:Nat->Int) (hv:∀ i v,P i v->∃ t,v=.int (val i) t) (hb:n+1<scanBound) :
  ∀ (k i:Nat) (s:Shared),n - i=k->i<=n->St i s.heap->SetG prog w s.heap S (firstMet val i)->
   (∀ g tk,(∀ b o,b≠S->b∉wr->s.heap.get? b=some o->g.get? b=some o)->SetG prog w g S (firstMet val n)->R (.ok (.ret .none)) { s with heap:=g,toks:=tk })->
   codeAny (model prog w) A (.builtin "set.update.loop" ⟨[.ref S,.ref I],[]⟩) R s:=by
 have hSw:S∉wr:=λ z=>hSf (W.sub _ z)
 intro k
 induction k with
 | zero=>
  intro i s hk hi hst hS hR
  have hin:i=n:=by lia
  subst hin
  refine codeAny_builtin GI ?_
  rw [FN Fz _]
  show wpAny _ A.in1 (pyNext (.ref I) >>= _) _ _ s
  refine wpAny_bind (W.done s _ _ hst λ g tk kp=>?_)
  exact wpAny_pure (hR g tk (λ b o _ q e=>kp b o q e) (hS.at λ o e=>kp S o hSw e))
 | succ k ih=>
  intro i s hk hi hst hS hR
  have hlt:i<n:=by lia
  refine codeAny_builtin GI ?_
  rw [FN Fz _]
  show wpAny _ A.in1 (pyNext (.ref I) >>= _) _ _ s
  refine wpAny_bind (W.item i s _ _ hlt hst λ v g tk hP st1 kp=>?_)
  obtain ⟨t,rfl⟩:=hv i v hP
  have hS1:SetG prog w g S (firstMet val i):=hS.at λ o e=>kp S o hSw e
  show wpAny _ A.in1 (holding [Hn (val i) t] (setAdd S (.int (val i) t)) >>= _) _ _ { s with heap:=g,toks:=tk }
  refine wpAny_bind (wpAny_holding ?_)
  unfold setAdd
  refine wpAny_holding (wpAny_bind ((intKind prog w).pyHash (k:=val i) (intKind_is _ _ _ _) ?_))
  have hl:=firstMet_length_le val i
  refine uR (s:={ s with heap:=g,toks:=tk+1 }) (intKind_is _ _ _ _) rfl hS1 (by lia) λ g2 b sb hS2=>?_
  rw [<-firstMet_succ] at hS2
  refine wpAny_pure ⟨plainId_quiet Fz _,ih (i+1) _ (by lia) hlt (W.frame _ _ _ st1 λ c hc o e=>?_) hS2 λ g3 tk3 k3 hS3=>?_⟩
  ·exact (sb.2 c (λ z=>hSf (z▸hc))).trans e
  ·exact hR g3 tk3 (λ c o q1 q2 e=>k3 c o q1 q2 ((sb.2 c q1).trans (kp c o q2 e))) hS3
theorem xN (a:Value) (h:Q (.ref s.heap.objs.size) { s with heap:=s.heap.push { cls:=.type "set",dict:=none,data:=.set #[] 0 (.fresh 0 0 (!jA w)) } }) :
  codeAny (model prog w) A (.call (.builtin "set.__new__") ⟨[.type "set",a],[]⟩) (wants Q E) s:=by
 refine codeAny_of_tree ?_
 show wpAny _ A.in1 (do checkBuiltinCall "set.__new__" ⟨[.type "set",a],[]⟩; again (.builtin "set.__new__" ⟨[.type "set",a],[]⟩)) _ _ s
 refine wpAny_bind (wpAny_of_eq (PySem.F.newCall_set_1 a) (wpAny_pure ⟨plainId_quiet Jk _,codeAny_builtin PySem.F.entry_set_new ?_⟩))
 rw [FN Jk _]
 unfold Builtin.«set.__new__» Lb
 have hself:=sub_set_self
 obtain ⟨h0,gn,dr,tk,os⟩:=s
 dsimp only
 wp_walk
 refine wpAny_askSetting (wpAny_pure ?_)
 dsimp only
 simp only [newObj]
 refine wpAny_bind (wpAny_alloc (wpAny_pure (wpAny_pure ?_)))
 exact h
set_option maxHeartbeats 3200000 in
theorem nj {l:Addr} {ns:List Int} (hh:A.handled=none) (hl:s.heap.IsList l its.toArray) (hi:IntsAre its ns) (hb:its.length+1<scanBound)
  (h:∀ g tk,SetG prog w g s.heap.objs.size (firstMet (λ i=>ns.getD i 0) its.length)->(∀ b o,s.heap.get? b=some o->g.get? b=some o)->Q (.ref s.heap.objs.size) { s with heap:=g,toks:=tk }) :
  wpAny (model prog w) A (call (.type "set") [.ref l]) Q E s:=by
 obtain ⟨c,tl,hmro⟩:=E3.mro
 have hmade:=E3.made
 have hsub:=E3.sub
 refine wpAny_call (codeAny_of_tree ?_)
 show wpAny _ _ (callAny (.type "set") _) _ _ _
 refine wpAny_pure ⟨Code.quiet_builtin _ (by decide +kernel),codeAny_builtin PySem.F.entry_type_call ?_⟩
 rw [Around.under_plain (weight_type_call_type "set" [.ref l] []) rfl]
 have q1:=E3.notType
 have q2:=E3.canCreate
 have q3:=PySem.F.typeCall_set_1 (.ref l)
 repeat (any_goals (first | assumption | wp_step))
 refine codeAny_mono (xN (.ref l) (E:=E) (Q:=λ obj s₁=>obj=.ref s.heap.objs.size/\s₁={ s with heap:=s.heap.push { cls:=.type "set",dict:=none,data:=.set #[] 0 (.fresh 0 0 (!jA w)) } }) ⟨rfl,rfl⟩) λ r s₁ hr=>?_
 cases r with
 | error e=>exact hr
 | ok fl=>
  cases fl with
  | ret obj=>
   obtain ⟨rfl,rfl⟩:=hr
   have tS:(s.heap.push { cls:=.type "set",dict:=none,data:=.set #[] 0 (.fresh 0 0 (!jA w)) }).get? s.heap.objs.size=some { cls:=.type "set",dict:=none,data:=.set #[] 0 (.fresh 0 0 (!jA w)) }:=DB _ rfl
   have ty:GR { s with heap:=s.heap.push { cls:=.type "set",dict:=none,data:=.set #[] 0 (.fresh 0 0 (!jA w)) } } (.ref s.heap.objs.size) "set":=⟨_,tS,rfl⟩
   have q4:=E3.init.lookup
   have q5:=E3.init.bind (.ref s.heap.objs.size)
   repeat (any_goals (first | assumption | wp_step))
   refine codeAny_mono (codeAny_call_builtin (R:=wants (λ r s₂=>r=.none/\∃ g tk,s₂={ s with heap:=g,toks:=tk }/\SetG prog w g s.heap.objs.size (firstMet (λ i=>ns.getD i 0) its.length)/\∀ b o,s.heap.get? b=some o->g.get? b=some o) E) E3.init.plain PySem.F.entry_set_init (check_set_init_1 ty ?_)) λ r₂ s₂ hr₂=>?_
   ·obtain ⟨ol,hol,hcl,nl,hdl⟩:=hl
    obtain ⟨ocls,odict,odata,oslots⟩:=ol
    simp only at hcl hdl
    subst hcl hdl
    have hol1:(s.heap.push { cls:=.type "set",dict:=none,data:=.set #[] 0 (.fresh 0 0 (!jA w)) }).get? l=some { cls:=.type "list",dict:=odict,data:=.seq its.toArray nl,slots:=oslots }:=Dd _ hol
    have q6:=PySem.F.sub_list_set
    have q7:=PySem.F.sub_list_frozenset
    have q8:(EK "list" == EK "dict")=false:=by decide
    have hl1:(s.heap.push { cls:=.type "set",dict:=none,data:=.set #[] 0 (.fresh 0 0 (!jA w)) }).IsList l its.toArray:=⟨_,hol1,rfl,nl,rfl⟩
    unfold Builtin.«set.__init__» noKeywords KQ
    generalize hPI:pyIter=PI
    wp_walk
    subst hPI
    refine wpAny_pyIter_list hl1 ?_
    refine wpAny_bind (wpAny_runValue ?_)
    have hlS:l<s.heap.objs.size:=Dp hol
    have hh3:A.in1.in1.in1.handled=none:=by simp [hh]
    have eI:(s.heap.push { cls:=.type "set",dict:=none,data:=.set #[] 0 (.fresh 0 0 (!jA w)) }).objs.size=s.heap.objs.size+1:=size_push' ..
    have hneI:l≠(s.heap.push { cls:=.type "set",dict:=none,data:=.set #[] 0 (.fresh 0 0 (!jA w)) }).objs.size:=by rw [eI]; exact Dw (FI hlS)
    have hSf:s.heap.objs.size∉[(s.heap.push { cls:=.type "set",dict:=none,data:=.set #[] 0 (.fresh 0 0 (!jA w)) }).objs.size,l]:=by
     rw [eI]
     intro z
     simp only [Dx,Ed,or_false] at z
     rcases z with z | z
     ·exact absurd z.symm (Ko _)
     ·exact absurd z (E8 hlS)
    have hv:∀ (i:Nat) (v:Value),its.toArray[i]? = some v->∃ t,v=.int ((λ i=>ns.getD i 0) i) t:=λ i v e=>IntsAre.int_at hi i v (by simpa using e)
    have ez:its.toArray.size=its.length:=Dm ..
    have g0:((s.heap.push { cls:=.type "set",dict:=none,data:=.set #[] 0 (.fresh 0 0 (!jA w)) }).push { cls:=.type "list_iterator",data:=.fields #[.ref l,.int 0 0] }).get? s.heap.objs.size=some { cls:=.type "set",dict:=none,data:=.set #[] 0 (.fresh 0 0 (!jA w)) }:=Dd _ tS
    refine uS (Walks.list hh3 _ l hneI its.toArray) hSf (λ i=>ns.getD i 0) hv (by rw [ez]; exact hb) (its.toArray.size - 0) 0 _ (by lia) (Du _) ⟨⟨_,DB _ rfl,rfl,rfl⟩,hl1.push _⟩ ?_ λ g tk kp hG=>?_
    ·refine ⟨_,#[],0,_,g0,⟨rfl,rfl,rfl⟩,rfl,λ e he=>by simp at he,λ k=>by simp [firstMet_zero],by decide,rfl,rfl,KN,JW,rfl⟩
    ·refine wpAny_pure ?_
     show wpAny _ _ (ret D8) _ _ _
     rw [ez] at hG
     refine wpAny_pure ⟨rfl,g,tk,rfl,hG,λ b o e=>?_⟩
     have hbl:=Dp e
     refine kp b o (Dw hbl) ?_ (Dd _ (Dd _ e))
     rw [eI]
     intro z
     have:b=s.heap.objs.size+1:=by simpa using z
     exact absurd hbl (by rw [this]; exact Nat.not_lt_of_le (FO _))
   ·cases r₂ with
    | error e=>exact hr₂
    | ok fl₂=>
     cases fl₂ with
     | ret r=>
      obtain ⟨rfl,g,tk,rfl,hG,kp⟩:=hr₂
      repeat (any_goals (first | assumption | wp_step))
      exact h _ _ hG kp
     | _=>exact hr₂.elim
  | _=>exact hr.elim
end
theorem slot_sit_next:Mg "set_iterator" "__next__" "set_iterator.__next__":=
 .of (owner:="set_iterator") (n:="__next__") (by rw [typeLookup_type,builtinLookup_eq_fast]; kernel_rfl) (by decide +kernel) (by decide +kernel) (by decide +kernel)
  (by first | exact .inl (by decide +kernel) | exact .inr (by decide +kernel)) (by rw [isSubtype_type]; kernel_rfl)
theorem fB:entryFor table "set_iterator.__next__" = some Builtin.«set_iterator.__next__»:=entryFor_of_tree (by kernel_rfl)
theorem gI (a:Value):argsOk "set_iterator.__next__" ⟨[a],[]⟩:=by unfold argsOk; kernel_rfl
theorem jZ:entryFor table "set.__iter__" = some Builtin.«frozenset.__iter__»:=entryFor_alias (id':="frozenset.__iter__") (by kernel_rfl) rfl (by decide +kernel) (by kernel_rfl)
theorem gJ:Mg "set_iterator" "__iter__" "set_iterator.__iter__":=
 .of (owner:="set_iterator") (n:="__iter__") (by rw [typeLookup_type,builtinLookup_eq_fast]; kernel_rfl) (by decide +kernel) (by decide +kernel) (by decide +kernel)
  (by first | exact .inl (by decide +kernel) | exact .inr (by decide +kernel)) (by rw [isSubtype_type]; kernel_rfl)
theorem j4:entryFor table "set_iterator.__iter__" = some Builtin.«dict_keyiterator.__iter__»:=entryFor_alias (id':="dict_keyiterator.__iter__") (by kernel_rfl) rfl (by decide +kernel) (by kernel_rfl)
theorem lq (a:Value):argsOk "set_iterator.__iter__" ⟨[a],[]⟩:=by unfold argsOk; kernel_rfl
theorem rP {α:Type} (f:Nat->Nat):∀ (fuel k:Nat) (l:List α) (out:Array α),l.length<=fuel->(JN f fuel k l out).toList.Perm (out.toList++l)
 | 0,k,l,out,h=>by
  have:l=[]:=Gm (by lia)
  subst this
  unfold JN
  simp
 | fuel+1,k,l,out,h=>by
  unfold JN
  cases e:l[f k % l.length]? with
  | none=>
   have:l=[]:=by
    cases l with
    | nil=>rfl
    | cons x r=>
     have hlt:f k % (x::r).length<(x::r).length:=Mh _ (by simp)
     rw [C4 hlt] at e
     cases e
   subst this
   simp
  | some x=>
   simp only
   obtain ⟨hi,ex⟩:=DQ.mp e
   have ih:=rP f fuel (k+1) (l.eraseIdx (f k % l.length)) (out.push x) (by rw [Jt]; split<;>lia)
   refine ih.trans ?_
   rw [FF,DH]
   refine FB _ ?_
   have:(l.eraseIdx (f k % l.length))=l.take (f k % l.length)++l.drop (f k % l.length+1):=G1 _ _
   rw [this]
   have e2:l=l.take (f k % l.length)++x::l.drop (f k % l.length+1):=by
    rw [<-ex,<-EJ hi,DP]
   generalize l.take (f k % l.length)=a at e2 ⊢
   generalize l.drop (f k % l.length+1)=b at e2 ⊢
   rw [e2]
   show (x::(a++b)).Perm _
   exact GU.symm
theorem rQ {α:Type} (f:Nat->Nat) (xs:Array α):(pickOrder f xs).toList.Perm xs.toList:=by
 unfold pickOrder
 have:=rP f xs.size 0 xs.toList #[] (by simp)
 simpa using this
noncomputable def yw (es:Array (Int×Value)) (t:SetTable):Bool:=!t.plain && es.size > 1
noncomputable abbrev ow (first:Value) (a:Addr) (i n ep:Nat):Obj:={ cls:=.type "set_iterator",dict:=none,data:=.fields #[first,rawInt i,.ref a,rawInt n,rawInt ep],slots:=#[] }
noncomputable def jB (t:SetTable) (i:Nat):Nat:=if i=0 then 0 else t.place.getD (i - 1) 0+1
def Way (w:World) (h:Heap) (it a:Addr) (es:Array (Int×Value)) (ep:Nat) (t:SetTable) (us:List Value) (T:Addr) (i:Nat) (first:Value):Prop:=
 (jA w=true/\first=rawInt 0/\us=(pickOrder (w.params.setOrder a ep) es).toList.map (·.2))\/
 (jA w=false/\yw es t=false/\first=rawInt (jB t i)/\us=es.toList.map (·.2))\/
 ∃ (ps:List Nat) (oT:Obj) (nT:Nat),first=.ref T/\T≠it/\h.get? T=some oT/\oT.cls=.type "tuple"/\oT.data=.seq (ps.map λ p=>rawInt (p:Nat)).toArray nT/\ps.length=es.size/\∀ (j p:Nat) u,ps[j]? = some p->us[j]? = some u->∃ x,es[p]? = some x/\x.2=u
def Sit (w:World) (h:Heap) (it a:Addr) (es:Array (Int×Value)) (ep:Nat) (t:SetTable) (us:List Value) (T:Addr) (i:Nat):Prop:=∃ first,h.get? it=some (ow first a i es.size ep)/\Way w h it a es ep t us T i first
def xO (h:Heap) (a:Addr) (es:Array (Int×Value)) (ep:Nat) (t:SetTable):Prop:=∃ o,h.get? a=some o/\o.cls=.type "set"/\o.data=.set es ep t/\t.fits es.size=true/\Ris t.place.toList
section
variable {prog:Program} {w:World} {A:Around} {E:Value->Shared->Prop} {s:Shared}
theorem mD {t:SetTable} (h:t.fits n=true):t.place.size=n:=by
 unfold MN at h
 rw [Ey,beq_iff_eq] at h
 exact h.1
theorem kq {t:SetTable} (h:Ris t.place.toList) (hi:i<=t.place.size):Fw t.place (jB t i)=i:=by
 obtain ⟨p1,p2,p3⟩:=jy h (jB t i)
 generalize Fw t.place (jB t i)=r at *
 have get:∀ j,j<t.place.size->t.place[j]? = some (t.place.getD j 0):=λ j hj=>by simp [DI,hj]
 unfold jB at p2 p3
 by_cases z:i=0
 ·subst z
  rw [if_pos rfl] at p2 p3
  rcases Fg r with q | q
  ·exact q
  ·exact absurd (p2 0 _ (get 0 (by lia)) q) (by lia)
 ·rw [if_neg z] at p2 p3
  have gi:=get (i - 1) (by lia)
  rcases EL r i with q | q | q
  ·exact absurd (p3 (i - 1) _ gi (by lia)) (by lia)
  ·exact q
  ·have g2:=get i (by lia)
   have h1:=p2 i _ g2 q
   have h2:=ou h gi g2 (by lia)
   lia
theorem cm {Q:Bool->Shared->Prop} (h:Q (jA w) s):wpAny (model prog w) A setsByText Q E s:=by
 unfold setsByText
 exact wpAny_bind (wpAny_askSetting (wpAny_pure h))
theorem uT {it T:Addr} {es:Array (Int×Value)} {t:SetTable} {Q:Option Value->Shared->Prop} (hl:us.length=es.size) (hna:a≠it) (hS:xO s.heap a es ep t) (hled:t.led=!jA w) (hi:Sit w s.heap it a es ep t us T i) (hu:us[i]? = some u)
  (h:∀ g,Sit w g it a es ep t us T (i+1)->Gr it s.heap g->Q (some u) { s with heap:=g }):wpAny (model prog w) A (pyNext (.ref it)) Q E s:=by
 obtain ⟨h0,gn,dr,tk,os⟩:=s
 obtain ⟨first,hit,hw⟩:=hi
 obtain ⟨o,ho,hc,hd,hf,hr⟩:=hS
 have ty:GR ⟨h0,gn,dr,tk,os⟩ (.ref it) "set_iterator":=⟨_,hit,rfl⟩
 have hlt:i<es.size:=by rw [<-hl]; exact (DQ.mp hu).1
 have e1:((i+1:Nat):Int)=(i:Int)+1:=by lia
 unfold pyNext
 refine wpAny_bind (wpAny_attempt (wpAny_callSpecial?_slot (name:=EV "__next__") ty slot_sit_next (wpAny_call_entry slot_sit_next ty fB ?_ (gI _))))
 refine wpAny_bind (wpAny_pure (wpAny_bind (wpAny_fieldsOf hit rfl ?_)))
 simp only [rawInt]
 refine wpAny_bind (wpAny_setEntries_of ho hd hf ?_)
 rw [if_neg (by simp)]
 rcases hw with ⟨w1,rfl,rfl⟩ | ⟨w1,w2,rfl,rfl⟩ | ⟨ps,oT,nT,rfl,hTi,hT,hTc,hTd,hpl,hps⟩
 ·simp only [rawInt,Eb]
  refine wpAny_bind ?_
  unfold setNext
  refine wpAny_bind (wpAny_setState_of ho hd hf (wpAny_bind (cm ?_)))
  rw [w1]
  simp only [if_true,bne_self_eq_false,Dh,if_false]
  refine wpAny_bind ?_
  unfold setWalk
  refine wpAny_bind (wpAny_setState_of ho hd hf (wpAny_bind (cm ?_)))
  rw [w1]
  simp only [if_true]
  refine wpAny_bind (wpAny_askSetting (wpAny_pure (wpAny_pure ?_)))
  rw [<-EO]
  rw [De] at hu
  obtain ⟨x,hx,rfl⟩:=EI.mp hu
  have hx':(pickOrder ((model prog w).w.params.setOrder a ep) es).toList[i]? = some x:=hx
  simp only [hx',Kz]
  refine wpAny_bind (wpAny_setField_rec hit (by simp) λ h1 f1 sb1=>?_)
  refine wpAny_bind (wpAny_setField_rec f1 (by simp) λ h2 f2 sb2=>?_)
  refine wpAny_pure ⟨_,rfl,wpAny_pure (h h2 ⟨rawInt 0,?_,.inl ⟨w1,rfl,rfl⟩⟩ (JO sb1 sb2))⟩
  unfold ow
  rw [show rawInt ((i+1:Nat):Int)=rawInt ((i:Int)+1) by rw [e1]]
  simpa [rawInt] using f2
 ·simp only [rawInt,Eb]
  refine wpAny_bind ?_
  unfold setNext
  refine wpAny_bind (wpAny_setState_of ho hd hf (wpAny_bind (cm ?_)))
  rw [w1]
  simp only [Dh,if_false]
  show wpAny _ _ (if yw es t=true then _ else _) _ _ _
  rw [w2]
  simp only [Dh,if_false]
  refine wpAny_bind ?_
  have e3:(!t.led && !es.isEmpty)=false:=by rw [hled,w1]; rfl
  show wpAny _ _ (if (!t.led && !es.isEmpty)=true then unsupported _ else pure ()) _ _ _
  rw [e3]
  simp only [Dh,if_false]
  refine wpAny_pure (wpAny_pure ?_)
  have hps:=mD hf
  rw [kq hr (by lia)]
  rw [De,EO] at hu
  obtain ⟨x,hx,rfl⟩:=EI.mp hu
  have hp:t.place[i]? = some (t.place.getD i 0):=by simp [DI,hps,hlt]
  rw [hx,hp]
  obtain ⟨x1,x2⟩:=x
  simp only
  refine wpAny_bind (wpAny_setField_rec hit (by simp) λ h1 f1 sb1=>?_)
  refine wpAny_bind (wpAny_setField_rec f1 (by simp) λ h2 f2 sb2=>?_)
  refine wpAny_pure ⟨_,rfl,wpAny_pure (h h2 ⟨rawInt (jB t (i+1)),?_,.inr (.inl ⟨w1,w2,rfl,rfl⟩)⟩ (JO sb1 sb2))⟩
  unfold ow
  rw [show rawInt ((i+1:Nat):Int)=rawInt ((i:Int)+1) by rw [e1],show jB t (i+1)=t.place.getD i 0+1 from rfl]
  simpa [rawInt] using f2
 ·simp only [rawInt,Eb]
  refine wpAny_bind (wpAny_seqItems hT hTd ?_)
  have hpi:i<ps.length:=by lia
  have e4:(ps.map λ p=>rawInt (p:Nat)).toArray[i]? = some (.int (ps[i]:Nat) 0):=by simp [rawInt,hpi]
  dsimp only
  rw [e4]
  simp only [Eb]
  obtain ⟨x,hx,rfl⟩:=hps i ps[i] u (by simp [hpi]) hu
  refine wpAny_bind ?_
  unfold setNextDrawn
  refine wpAny_bind (wpAny_setState_of ho hd hf ?_)
  simp only [bne_self_eq_false,Dh,if_false,hx]
  obtain ⟨x1,x2⟩:=x
  refine wpAny_pure ?_
  refine wpAny_bind (wpAny_setField_rec hit (by simp) λ h1 f1 sb1=>?_)
  refine wpAny_pure ⟨_,rfl,wpAny_pure (h h1 ⟨.ref T,?_,.inr (.inr ⟨ps,oT,nT,rfl,hTi,sb1.extBut _ _ hTi hT,hTc,hTd,hpl,hps⟩)⟩ sb1)⟩
  unfold ow
  rw [show rawInt ((i+1:Nat):Int)=rawInt ((i:Int)+1) by rw [e1]]
  simpa [rawInt] using f1
end
section
variable {prog:Program} {w:World} {A:Around} {E:Value->Shared->Prop} {s:Shared}
theorem xP {it T:Addr} {es:Array (Int×Value)} {t:SetTable} {Q:Option Value->Shared->Prop} (hh:A.handled=none) (hl:us.length=es.size) (hna:a≠it) (hS:xO s.heap a es ep t) (hled:t.led=!jA w) (hi:Sit w s.heap it a es ep t us T es.size)
  (h:∀ g,IW it s.heap g->Q none { s with heap:=g }):wpAny (model prog w) A (pyNext (.ref it)) Q E s:=by
 obtain ⟨h0,gn,dr,tk,os⟩:=s
 obtain ⟨first,hit,hw⟩:=hi
 obtain ⟨o,ho,hc,hd,hf,hr⟩:=hS
 have ty:GR ⟨h0,gn,dr,tk,os⟩ (.ref it) "set_iterator":=⟨_,hit,rfl⟩
 unfold pyNext
 refine wpAny_bind (wpAny_attempt (wpAny_callSpecial?_slot (name:=EV "__next__") ty slot_sit_next (wpAny_call_entry slot_sit_next ty fB ?_ (gI _))))
 refine wpAny_bind (wpAny_pure (wpAny_bind (wpAny_fieldsOf hit rfl ?_)))
 simp only [rawInt]
 refine wpAny_bind (wpAny_setEntries_of ho hd hf ?_)
 rw [if_neg (by simp)]
 -- the exception at the end,from a heap where the iterator may be written
 have stop:∀ (h1:Heap) (R:JL->Shared->Prop),IW it h0 h1->wpAny (model prog w) A.in1 (newExc (.type "StopIteration") [] >>= λ e=>(raiseNew e:Sem JL)) R (λ e s'=>wpAny (model prog w) A (do if <-isInstance e (.type "StopIteration") then pure none else throw e) Q E s') ⟨h1,gn,dr,tk,os⟩:=by
  intro h1 R eb
  refine wpAny_bind ?_
  simp only [newExc,newTuple]
  refine wpAny_bind (wpAny_newObj_type ?_ (by size_fits))
  refine wpAny_bind (m:=firstArgMember _ _) (wpAny_of_eq (a:=D8) (by first | rfl | (simp only [firstArgMember]; rfl)) (wpAny_newObj_type ?_ (by size_fits)))
  simp only [raiseNew]
  refine wpAny_bind (wpAny_handled ?_)
  rw [show A.in1.handled=none from hh]
  refine wpAny_bind (wpAny_pure (wpAny_throw ?_))
  refine wpAny_bind (wpAny_isInstance (T:="StopIteration") (b:=true) ⟨_,DB _ rfl,rfl⟩ isSubtype_stop ?_)
  exact wpAny_pure (h _ ((eb.push _).push _))
 rcases hw with ⟨w1,rfl,rfl⟩ | ⟨w1,w2,rfl,rfl⟩ | ⟨ps,oT,nT,rfl,hTi,hT,hTc,hTd,hpl,hps⟩
 ·simp only [rawInt,Eb]
  refine wpAny_bind ?_
  unfold setNext
  refine wpAny_bind (wpAny_setState_of ho hd hf (wpAny_bind (cm ?_)))
  rw [w1]
  simp only [if_true,bne_self_eq_false,Dh,if_false]
  refine wpAny_bind ?_
  unfold setWalk
  refine wpAny_bind (wpAny_setState_of ho hd hf (wpAny_bind (cm ?_)))
  rw [w1]
  simp only [if_true]
  refine wpAny_bind (wpAny_askSetting (wpAny_pure (wpAny_pure ?_)))
  rw [C6] at hl
  have hx':(pickOrder ((model prog w).w.params.setOrder a ep) es)[es.size]? = none:=by
   rw [<-EO]
   exact Ea (by rw [show (pickOrder ((model prog w).w.params.setOrder a ep) es).toList.length=es.size from hl]; exact C8 _)
  simp only [hx',Option.map_none]
  refine wpAny_bind (wpAny_setField hit rfl (by simp) ?_)
  exact stop _ _ (FX ..).extBut
 ·simp only [rawInt,Eb]
  refine wpAny_bind ?_
  unfold setNext
  refine wpAny_bind (wpAny_setState_of ho hd hf (wpAny_bind (cm ?_)))
  rw [w1]
  simp only [Dh,if_false]
  show wpAny _ _ (if yw es t=true then _ else _) _ _ _
  rw [w2]
  simp only [Dh,if_false]
  refine wpAny_bind ?_
  have e3:(!t.led && !es.isEmpty)=false:=by rw [hled,w1]; rfl
  show wpAny _ _ (if (!t.led && !es.isEmpty)=true then unsupported _ else pure ()) _ _ _
  rw [e3]
  simp only [Dh,if_false]
  refine wpAny_pure (wpAny_pure ?_)
  have hps:=mD hf
  rw [kq hr (by lia)]
  have hx:es[es.size]? = none:=by simp
  rw [hx]
  simp only
  refine wpAny_bind (wpAny_setField hit rfl (by simp) ?_)
  exact stop _ _ (FX ..).extBut
 ·simp only [rawInt,Eb]
  refine wpAny_bind (wpAny_seqItems hT hTd ?_)
  have e4:(ps.map λ p=>rawInt (p:Nat)).toArray[es.size]? = none:=by simp; lia
  dsimp only
  rw [e4]
  dsimp only
  refine wpAny_bind (wpAny_setField_rec hit (by simp) λ h1 f1 sb1=>?_)
  refine wpAny_bind (wpAny_setField f1 rfl (by simp) ?_)
  exact stop _ _ (ME (Mj sb1) (FX ..).extBut)
theorem Sit.at {g:Heap} {it T:Addr} {es:Array (Int×Value)} {t:SetTable} (x:Sit w h it a es ep t us T i) (k:∀ b o,(b=it\/b=T)->h.get? b=some o->g.get? b=some o):Sit w g it a es ep t us T i:=by
 obtain ⟨first,e,c⟩:=x
 refine ⟨first,k _ _ (.inl rfl) e,?_⟩
 rcases c with c | c | ⟨ps,oT,nT,e1,e2,e3,r⟩
 ·exact .inl c
 ·exact .inr (.inl c)
 ·exact .inr (.inr ⟨ps,oT,nT,e1,e2,k _ _ (.inr rfl) e3,r⟩)
theorem uU {it:Addr} {es:Array (Int×Value)} {t:SetTable} (T:Addr) (hh:A.handled=none) (hl:us.length=es.size) (hna:a≠it) (hled:t.led=!jA w) :
  Walks prog w A it [it,a,T] [it] es.size (λ i v=>us[i]? = some v) (λ i h=>xO h a es ep t/\Sit w h it a es ep t us T i) where
 sub:=λ b hb=>by rw [Dk.mp hb]; exact DF ..
 frame:=λ i h h' st k=>by
  obtain ⟨⟨o,ho,r⟩,st2⟩:=st
  refine ⟨⟨o,k a (by simp) o ho,r⟩,st2.at λ b o hb e=>?_⟩
  rcases hb with rfl | rfl
  ·exact k _ (by simp) o e
  ·exact k _ (by simp) o e
 item:=λ i s Q E hi st hQ=>by
  obtain ⟨st1,st2⟩:=st
  obtain ⟨u,hu⟩:∃ u,us[i]? = some u:=⟨us[i]'(by lia),by simp [hl,hi]⟩
  refine uT hl hna st1 hled st2 hu λ g sg sb=>hQ u g s.toks hu ⟨?_,sg⟩ λ b o hb e=>(sb.2 b (λ z=>hb (by simp [z]))).trans e
  obtain ⟨o,ho,r⟩:=st1
  exact ⟨o,(sb.2 a hna).trans ho,r⟩
 done:=λ s Q E st hQ=>by
  obtain ⟨st1,st2⟩:=st
  exact xP hh hl hna st1 hled st2 λ g eb=>hQ g s.toks λ b o hb e=>eb b o (λ z=>hb (by simp [z])) e
 self:=λ i s Q E st hQ=>by
  obtain ⟨_,first,f1,_⟩:=st
  have ty:s.TypeIs (.ref it) "set_iterator":=⟨_,f1,rfl⟩
  refine wpAny_pyIter_slot ty gJ (wpAny_call_entry gJ ty j4 ?_ (lq _))
  show wpAny _ _ (ret (.ref it)) _ _ s
  exact wpAny_pure ⟨_,rfl,"set_iterator",_,ty,slot_sit_next.lookup,hQ⟩
theorem pH {Q:Nat->Shared->Prop} (hn:n≠0) (h:∀ i d,i<n->Q i { s with drawn:=d }):wpAny (model prog w) A (choose .order n) Q E s:=λ _ _ _=>⟨hn,h _ _ (Mh _ (Nat.pos_of_ne_zero hn))⟩
theorem kr {α:Type} {Q:List α->Shared->Prop}:∀ (n:Nat) (xs:List α) (s:Shared),xs.length=n->(∀ ys d,ys.Perm xs->Q ys { s with drawn:=d })->wpAny (model prog w) A (drawOrder n xs) Q E s
 | 0,xs,s,hl,h=>by
  have:xs=[]:=Gm hl
  subst this
  exact wpAny_pure (h [] s.drawn (D0 _))
 | n+1,xs,s,hl,h=>by
  cases xs with
  | nil=>simp at hl
  | cons x0 r0=>
   have hne:(x0::r0).length≠0:=by simp
   show wpAny _ A (choose .order (x0::r0).length >>= _) _ _ _
   refine wpAny_bind (pH hne λ i d hi=>?_)
   have e:(x0::r0)[i]? = some ((x0::r0)[i]):=by rw [C4 hi]
   simp only [e]
   generalize hx:x0::r0=xs at *
   refine wpAny_bind (kr n (xs.eraseIdx i) { s with drawn:=d } (by rw [Jt]; split<;>lia) λ ys d' hp=>?_)
   refine wpAny_pure (h (xs[i]::ys) d' ?_)
   refine (hp.cons _).trans ?_
   have e1:xs.eraseIdx i=xs.take i++xs.drop (i+1):=G1 _ _
   have e2:xs=xs.take i++xs[i]::xs.drop (i+1):=by rw [<-EJ hi,DP]
   rw [e1]
   conv=>rhs; rw [e2]
   exact GU.symm
theorem uV {es:Array (Int×Value)} {t:SetTable} (hS:xO s.heap a es ep t) (hled:t.led=!jA w) (hsz:es.size<=1000)
  (h:∀ (g:Heap) (it T:Addr) (us:List Value) d,(∀ b o,s.heap.get? b=some o->g.get? b=some o)->s.heap.objs.size<=it->s.heap.objs.size<=T->us.Perm (es.toList.map (·.2))->Sit w g it a es ep t us T 0->Q (.ref it) { s with heap:=g,drawn:=d }) :
  wpAny (model prog w) A (pyIter (.ref a)) Q E s:=by
 obtain ⟨o,ho,hc,hd,hf,hr⟩:=id hS
 have ty:s.TypeIs (.ref a) "set":=⟨o,ho,hc⟩
 have hal:a<s.heap.objs.size:=Dp ho
 refine wpAny_pyIter_slot ty Jl (wpAny_call_entry Jl ty jZ ?_ (PySem.F.args_set_iter_1 _))
 unfold Builtin.«frozenset.__iter__»
 refine wpAny_bind (m:=IK "__iter__" ⟨[.ref a],[]⟩) ?_
 unfold IK
 refine wpAny_bind (wpAny_pure (wpAny_pure ?_))
 refine wpAny_bind ?_
 unfold LQ
 refine wpAny_bind (wpAny_setEntries_of ho hd hf (wpAny_pure ?_))
 refine wpAny_bind ?_
 unfold setDrawn
 refine wpAny_bind (wpAny_setState_of ho hd hf (wpAny_bind (cm (wpAny_pure ?_))))
 show wpAny _ _ (if (!jA w && yw es t)=true then _ else _) _ _ _
 by_cases hD:(!jA w && yw es t)=true
 ·rw [if_pos hD]
  refine wpAny_bind (kr es.size (C9 es.size) s (by simp) λ ps d hp=>?_)
  have hpl:ps.length=es.size:=by rw [hp.length_eq,DR]
  refine wpAny_bind (wpAny_newTuple ?_ (by rw [C6,hpl,sizeLine_eq]; lia))
  dsimp only
  refine wpAny_bind (wpAny_setEpoch_of (s:={ s with heap:=s.heap.push { cls:=.type "tuple",data:=.seq (ps.map λ i=>rawInt (i:Nat)).toArray },drawn:=d }) (Dd _ ho) hd hf ?_)
  refine wpAny_bind (wpAny_newObj_type (wpAny_pure ?_))
  refine ⟨_,rfl,"set_iterator",_,⟨_,DB _ rfl,rfl⟩,slot_sit_next.lookup,?_⟩
  have eI:(s.heap.push { cls:=.type "tuple",data:=.seq (ps.map λ i=>rawInt (i:Nat)).toArray }).objs.size=s.heap.objs.size+1:=size_push' ..
  have hpm:=hp.map (λ p=>(es.toList.map (·.2)).getD p D8)
  have hall:(C9 es.size).map (λ p=>(es.toList.map (·.2)).getD p D8)=es.toList.map (·.2):=by
   have:=oj (es.toList.map (·.2)) D8
   rwa [C6,DT] at this
  rw [hall] at hpm
  refine h _ _ s.heap.objs.size _ d (λ b o e=>Dd _ (Dd _ e)) (by show s.heap.objs.size<=(s.heap.push _).objs.size; rw [eI]; exact FO _) (C8 _) hpm
   ⟨.ref s.heap.objs.size,DB _ rfl,.inr (.inr ⟨ps,_,0,rfl,by show s.heap.objs.size≠(s.heap.push _).objs.size; rw [eI]; exact Dw (Fu _),Dd _ (DB _ rfl),rfl,rfl,hpl,λ j p u e1 e2=>?_⟩)⟩
  rw [De,e1] at e2
  have hpr:p<es.size:=DN.mp (hp.mem_iff.mp (Ek e1))
  refine ⟨es[p],by simp [hpr],?_⟩
  have e3:=D7 e2
  rw [<-e3]
  simp [hpr]
 ·rw [if_neg hD]
  refine wpAny_bind (wpAny_pure ?_)
  refine wpAny_bind (wpAny_setEpoch_of ho hd hf ?_)
  refine wpAny_bind (wpAny_newObj_type (wpAny_pure ?_))
  refine ⟨_,rfl,"set_iterator",_,⟨_,DB _ rfl,rfl⟩,slot_sit_next.lookup,?_⟩
  cases hb:jA w with
  | true=>
   refine h _ s.heap.objs.size s.heap.objs.size _ s.drawn (λ b o e=>Dd _ e) (C8 _) (C8 _) ((rQ (w.params.setOrder a ep) es).map (·.2)) ⟨rawInt 0,DB _ rfl,.inl ⟨hb,rfl,rfl⟩⟩
  | false=>
   have hd2:yw es t=false:=by rw [hb] at hD; simpa using hD
   refine h _ s.heap.objs.size s.heap.objs.size _ s.drawn (λ b o e=>Dd _ e) (C8 _) (C8 _) (D0 _) ⟨rawInt 0,DB _ rfl,.inr (.inl ⟨hb,hd2,rfl,rfl⟩)⟩
theorem jC {k:Int} {v:Value} (h:(intKind prog w).is k v=true):∃ k' tk,v=.int k' tk:=by
 cases v with
 | int i tk=>exact ⟨i,tk,rfl⟩
 | _=>exact absurd h (by simp [intKind,LW])
theorem ox:∀ {us:List Value},(∀ v∈us,∃ k tk,v=.int k tk)->∃ ms,IntsAre us ms
 | [],_=>⟨[],.nil⟩
 | v::r,h=>by
  obtain ⟨k,tk,rfl⟩:=h v (DF ..)
  obtain ⟨ms,hm⟩:=ox (us:=r) λ u hu=>h u (DE _ hu)
  exact ⟨k::ms,.cons k tk hm⟩
theorem oy:∀ {us:List Value} {ms:List Int} {k:Int} {tk:Tok},IntsAre us ms->.int k tk∈us->k∈ms
 | _,_,k,tk,.cons n t r,h=>by
  rcases Dx.mp h with e | e
  ·cases e; exact DF ..
  ·exact DE _ (oy r e)
theorem jD:∀ {ks ms:List Int},ks.Nodup->(∀ k∈ks,k∈ms)->ms.length<=ks.length->ms.Perm ks
 | [],ms,_,_,hl=>by
  have:ms=[]:=Gm (by simpa using hl)
  rw [this]
 | k::r,ms,hn,hs,hl=>by
  have hk:=hs k (DF ..)
  have hn':=FA.mp hn
  have h1:=Jp hk
  have hlen:=h1.length_eq
  refine h1.trans ((jD hn'.2 (λ j hj=>?_) ?_).cons k)
  ·have hne:j≠k:=λ z=>hn'.1 (z▸hj)
   exact (Jq hne).mpr (hs j (DE _ hj))
  ·simp only [DD] at hlen hl
   lia
theorem pI:typeLookup (.type "set") "__len__" = pure (some (.builtin "set.__len__")):=by rw [typeLookup_type,builtinLookup_eq_fast]; kernel_rfl
theorem uW {r:Addr} (ty:s.TypeIs (.ref r) "set") {Q:Bool->Shared->Prop} (h:Q false s):wpAny (model prog w) A (HL (.ref r)) Q E s:=by
 unfold HL
 refine wpAny_bind (wpAny_specialOf ty pI ?_)
 generalize hid:("set.__len__" : String)=id0
 wp_delta
 rw [show splitId id0=some ("set","__len__") from by subst hid; decide +kernel]
 subst hid
 refine wpAny_bind (wpAny_isInstance (T:="set") (b:=true) ty (by rw [isSubtype_type]; kernel_rfl) ?_)
 refine wpAny_ite_split (λ z=>absurd z (by decide)) (λ _=>?_)
 refine wpAny_ite_split (λ _=>?_) (λ z=>absurd (by decide +kernel) z)
 exact wpAny_bind (wpAny_typeOf ty (wpAny_pure h))
theorem nk {ks:List Int} {Q:List Value->Shared->Prop} (hh:A.handled=none) (hG:SetG prog w s.heap a ks) (hsz:ks.length<=1000)
  (h:∀ g tk d us ms,(∀ b o,s.heap.get? b=some o->g.get? b=some o)->IntsAre us ms->ms.Perm ks->Q us { s with heap:=g,toks:=tk,drawn:=d }):wpAny (model prog w) A (collect (.ref a)) Q E s:=by
 obtain ⟨o,es,ep,t,ho,hx,hd,hel,hmem,hb,hf,hn,hnd,hr,hled⟩:=hG
 have hS:xO s.heap a es ep t:=⟨o,ho,hx.1,hd,hf,hr⟩
 have hal:a<s.heap.objs.size:=Dp ho
 unfold collect
 refine wpAny_bind (wpAny_runValue (codeAny_builtin PySem.F.entry_proto_collect ?_))
 rw [FN PySem.F.plain_proto_collect _]
 show wpAny _ A.in1 (newList [] >>= λ l=>again (.builtin "list.__iadd__" ⟨[l,.ref a],[]⟩)) _ _ s
 refine wpAny_bind (wpAny_newObj_type ?_)
 refine wpAny_pure ⟨plainId_quiet IL _,codeAny_builtin PySem.F.entry_list_iadd ?_⟩
 rw [FN IL _]
 show wpAny _ A.in1 (HM (.ref s.heap.objs.size) (.ref a) (.ref s.heap.objs.size)) _ _ _
 have tS:(s.heap.push (seqObj "list" #[] 0)).get? s.heap.objs.size=some (seqObj "list" #[] 0):=DB _ rfl
 have hS1:xO (s.heap.push (seqObj "list" #[] 0)) a es ep t:=⟨o,Dd _ ho,hx.1,hd,hf,hr⟩
 have ty1:GR { s with heap:=s.heap.push (seqObj "list" #[] 0) } (.ref a) "set":=⟨o,Dd _ ho,hx.1⟩
 show wpAny _ _ _ _ _ { s with heap:=s.heap.push (seqObj "list" #[] 0) }
 unfold HM
 refine wpAny_bind (wpAny_typeOf (T:="set") ty1 ?_)
 have n1:FR (.ref s.heap.objs.size) (.ref a)=false:=by simp [FR,E8 hal]
 simp only [n1,show (EK "set" == EK "list")=false by decide,show (EK "set" == EK "tuple")=false by decide,KZ,Dh,if_false]
 refine wpAny_bind (uV (s:={ s with heap:=s.heap.push (seqObj "list" #[] 0) }) hS1 hled (by lia) λ g it T us d kp hit1 hT1 hperm hsit=>?_)
 have hul:us.length=es.size:=by rw [hperm.length_eq,C6,DT]
 have eL:(s.heap.push (seqObj "list" #[] 0)).objs.size=s.heap.objs.size+1:=size_push' ..
 have hit1:s.heap.objs.size+1<=it:=by rw [<-eL]; exact hit1
 have tg:g.get? s.heap.objs.size=some (seqObj "list" #[] 0):=kp _ _ tS
 have hSg:xO g a es ep t:=by obtain ⟨o',h1,r⟩:=hS1; exact ⟨o',kp _ _ h1,r⟩
 have hna:a≠it:=Dw (Ds hal (D9 (FO _) hit1))
 -- what the loop comes to
 have vals:∀ acc:Array Value,ItemsOf (λ i v=>us[i]? = some v) acc es.size->acc.toList=us:=λ acc hacc=>by
  apply Gn
  intro j
  rw [EO]
  cases e:acc[j]? with
  | some v=>exact (hacc.2 j v e).symm
  | none=>
   have:=Array.getElem?_eq_none_iff.mp e
   rw [hacc.1] at this
   exact (Ea (by lia)).symm
 have hTS:T≠s.heap.objs.size:=λ z=>by
  have:(s.heap.push (seqObj "list" #[] 0)).objs.size<=T:=hT1
  rw [eL,z] at this
  exact absurd this (II (Fu _))
 obtain ⟨ms,hms,hmp⟩:∃ ms,IntsAre us ms/\ms.Perm ks:=by
  have all:∀ v∈us,∃ k tk,v=.int k tk:=λ v hv=>by
   obtain ⟨e,he,rfl⟩:=DM.mp (hperm.mem_iff.mp hv)
   obtain ⟨⟨k,hk,_⟩,_⟩:=hel e he
   exact jC hk
  obtain ⟨ms,hms⟩:=ox all
  refine ⟨ms,hms,jD hnd (λ k hk=>?_) (by rw [<-hms.length,hul,hn]; exact C8 _)⟩
  obtain ⟨e,he,hke⟩:=(hmem k).mp hk
  obtain ⟨k',tk,e9⟩:=jC hke
  have:e.2∈us:=hperm.mem_iff.mpr (DM.mpr ⟨e,he,rfl⟩)
  rw [e9] at this hke
  have ek:k=k':=(intKind prog w).inj _ _ _ hke (intKind_is _ _ _ _)
  subst ek
  exact oy hms this
 have key:∀ (g1:Heap) (c1:Nat),(∀ b o,b≠s.heap.objs.size->g.get? b=some o->g1.get? b=some o)->g1.get? s.heap.objs.size=some (seqObj "list" #[] c1)->
   codeAny (model prog w) A (.builtin "list.extend.loop" ⟨[.ref s.heap.objs.size,.ref it,.ref s.heap.objs.size],[]⟩)
    (λ q s'=>q=.ok (.ret (.ref s.heap.objs.size))/\∃ g tk acc c,s'={ s with heap:=g,toks:=tk,drawn:=d }/\(∀ b o,s.heap.get? b=some o->g.get? b=some o)/\g.get? s.heap.objs.size=some (seqObj "list" acc c)/\acc.toList=us) { s with heap:=g1,drawn:=d }:=by
  intro g1 c1 k1 t1
  have W:=(uU (prog:=prog) (w:=w) (A:=A.in1) (it:=it) (a:=a) (es:=es) (ep:=ep) (t:=t) (us:=us) T hh hul hna hled).toS
  have hnS:s.heap.objs.size∉[it,a,T]:=by
   intro z
   simp only [Dx,Ed,or_false] at z
   rcases z with z | z | z
   ·exact absurd hit1 (by rw [<-z]; exact II (Fu _))
   ·exact absurd z (E8 hal)
   ·exact hTS z.symm
  refine codeAny_extend_loopS W (by rw [sizeLine_eq]; lia) s.heap.objs.size hnS (.ref s.heap.objs.size) es.size 0 { s with heap:=g1,drawn:=d } #[] c1 (by lia) (Du _) ⟨?_,hsit.at λ b o hb e=>k1 b o ?_ e⟩ t1 (ItemsOf.nil _) λ s' acc c2 mv t2 hacc=>?_
  ·obtain ⟨o',h1,r⟩:=hSg
   exact ⟨o',k1 _ _ (Dw hal) h1,r⟩
  ·rcases hb with rfl | rfl
   ·exact λ z=>absurd hit1 (by rw [z]; exact II (Fu _))
   ·exact hTS
  ·refine ⟨rfl,s'.heap,s'.toks,acc,c2,?_,λ b o e=>mv.heap b o ?_ (k1 b o (Dw (Dp e)) (kp b o (Dd _ e))),t2,vals acc hacc⟩
   ·obtain ⟨h9,g9,d9,t9,o9⟩:=s'
    have m1:g9=s.gens:=mv.gens
    have m2:d9=d:=mv.drawn
    have m3:o9=s.os:=mv.os
    subst m1 m2 m3
    rfl
   ·intro z
    have hbl:=Dp e
    simp only [Dx,Ed,or_false] at z
    rcases z with z | z
    ·exact absurd hbl (by rw [z]; exact EM _)
    ·exact absurd (Ds hbl (D9 (FO _) hit1)) (by rw [z]; exact EM _)
 have fin:∀ s',(∃ g tk acc c,s'={ s with heap:=g,toks:=tk,drawn:=d }/\(∀ b o,s.heap.get? b=some o->g.get? b=some o)/\g.get? s.heap.objs.size=some (seqObj "list" acc c)/\acc.toList=us)->
   wpAny (model prog w) A (match D5 s.heap.objs.size with
   | D5 a=>do
    match (<-load a).data with
     | LM xs _=>pure xs.toList
     | _=>unsupported "internal:collect"
   | _=>unsupported "internal:collect") Q E s':=by
  rintro s' ⟨g,tk,acc,c,rfl,k9,t9,hacc⟩
  show wpAny _ A (load s.heap.objs.size >>= _) _ _ _
  refine wpAny_bind (wpAny_load t9 (wpAny_pure ?_))
  show Q acc.toList _
  rw [hacc]
  exact h g tk d us ms k9 hms hmp
 have tyg:GR { s with heap:=g,drawn:=d } (.ref a) "set":=by obtain ⟨o',h1,h2,_⟩:=hSg; exact ⟨o',h1,h2⟩
 refine wpAny_bind (wpAny_holding (uW tyg ?_))
 refine wpAny_ite_split (λ _=>?_) (λ _=>wpAny_pure ⟨plainId_quiet Ir _,codeAny_mono (key g 0 (λ b o _ e=>e) tg) λ q s' hq=>by obtain ⟨rfl,r⟩:=hq; exact fin s' r⟩)
 refine wpAny_bind (wpAny_rule (wpAny_bind ?_))
 show wpAny _ _ (updateSeq s.heap.objs.size (·.push .none) >>= λ _=>updateSeq s.heap.objs.size (·.pop)) _ _ _
 refine wpAny_bind (wpAny_updateSeq tg rfl ?_)
 have hS2:=Gv (Eu (·.push D8)) tg rfl
 refine wpAny_updateSeq (hz:=by seq_fits) hS2 rfl ?_
 have hS3:=Gv (Eu (·.pop)) hS2 rfl
 refine wpAny_pure ⟨plainId_quiet Ir _,codeAny_mono (key _ _ (λ b o nb e=>?_) hS3) λ q s' hq=>by obtain ⟨rfl,r⟩:=hq; exact fin s' r⟩
 exact (Gi _ _ (DX nb)).trans ((Gi _ _ (DX nb)).trans e)
end
end HT
namespace L2
open PySem PySem.Spec PyProof.Rows PySem.W
section
variable {X:Cx} {e:Expr} {t:TA} {p p2 pos pos2:Pos} {pins:List (Addr×Obj)} {σ:St} {H:Hp} {s:Shared}
theorem Inv.drew {d:Drawn} (I:Inv X pins σ H s):Inv X pins σ H { s with drawn:=d }:=⟨I.ok,I.os,I.bare,I.base,I.loc,I.cell,I.free,I.freeC,I.pin,I.hok,I.len⟩
def oz (K:C7) (t:TA):TE:=λ σ H Q=>t σ H λ vs H1=>∃ (l:Addr) (ns:List Int),vs=[.ref l]/\SqL K H1 l (ns.map MS)/\ns.length<1000/\
 ∀ (d:Addr) (ms:List Int),H1 d=none->ms.Pairwise (· < ·)->(∀ k,k∈ms↔k∈ns)->Q (.ref d) (upd H1 d (.lst (ms.map MS)))
theorem pJ {K:C7} (hc:X.calm=true) (hg:Gl X "sorted") (hm:X.mg "sorted" = none) (hg2:Gl X "set") (hm2:X.mg "set" = none) (ha:QA X [e] t) (hn:cI e=true:=by rfl) (hK:X.K=K:=by rfl) :
  QE X (.Call (.Name "sorted" p) [.Call (.Name "set" p2) [e] [] pos2] [] pos) (oz K t):=by
 subst hK
 refine ⟨λ pins s σ H Q I h=>?_⟩
 refine Call_ (eJ I hg hm (by decide +kernel:bootBuiltins "sorted" = some (.builtin "sorted")) (GP rfl (Jn ?_)))
 refine Ho (Call_ (eJ I hg2 hm2 (by decide +kernel:bootBuiltins "set" = some (.type "set")) (Et (thn (ha.out pos2 pins s σ H _ I h) λ us s1 ⟨vs,H1,I1,r1,q1⟩=>?_) (aP hn) rfl)))
 obtain ⟨l,ns,rfl,hq,h64,q⟩:=q1
 obtain ⟨u,rfl,ru⟩:=kE r1
 cases ru
 obtain ⟨its,rv,pl,hz⟩:=I1.list hq
 have hi:=kf rv
 have hl:its.length=ns.length:=hi.length
 have hmet:∀ k,k∈firstMet (λ i=>ns.getD i 0) its.length↔k∈ns:=λ k=>by
  rw [mq]
  constructor
  ·rintro ⟨i,hi1,rfl⟩
   rw [C5,C4 (by lia)]
   exact Dl _
  ·intro hk
   obtain ⟨i,hi1,rfl⟩:=Eh hk
   exact ⟨i,by lia,by rw [C5,C4 hi1]; rfl⟩
 have hlen:=firstMet_length_le (λ i=>ns.getD i 0) its.length
 refine HT.nj (I.ok.hd hc) pl.isList hi (by show its.length+1<4096; lia) λ g tk hG kp=>Ih ?_
 have I2:Inv X pins σ H1 { s1 with heap:=g,toks:=tk }:=I1.kept (t':=tk) kp
 refine HT.nh (HT.nk (s:={ s1 with heap:=g,toks:=tk }) (I.ok.hd hc) hG (by lia) λ g2 tk2 d us ms kp2 hms hmp=>?_)
 have I3:Inv X pins σ H1 { s1 with heap:=g2,toks:=tk2,drawn:=d }:=(I2.kept (t':=tk2) kp2).drew
 have lu:us.length=ms.length:=hms.length
 have lm:ms.length<1000:=by rw [hmp.length_eq]; lia
 refine ⟨by lia,oneType',_,HT.xI ms,λ h' Q' h2 k hQ=>?_,λ h' i j Q' hi1 hj1 k hQ=>?_,λ p hp hs=>?_⟩
 ·obtain ⟨v₁,v₂,rest,rfl⟩:∃ v₁ v₂ rest,us=v₁::v₂::rest:=by
   match us,h2 with
   | v₁::v₂::rest,_=>exact ⟨v₁,v₂,rest,rfl⟩
  rw [keyKind_ints hms]
  exact wpAny_pure hQ
 ·obtain ⟨t1,e1⟩:=HT.na hms hi1
  obtain ⟨t2,e2⟩:=HT.na hms hj1
  rw [e1,e2,keyLt'_oneType]
  exact oneLt_int hQ
 ·have hoL:(g2.push (seqObj "list" us.toArray 0)).get? g2.objs.size=some (seqObj "list" us.toArray 0):=DB _ rfl
  obtain ⟨c,hcc⟩:=sortedHeap_at (out:=DA (p.map λ i=>us.getD i D8)) hoL
  have hpl:=hp.length_eq
  rw [DR,lu] at hpl
  rw [lu] at hp
  have hpm:(p.map λ i=>ms.getD i 0).Perm ms:=by
   have:=hp.map (λ i=>ms.getD i 0)
   rwa [oj] at this
  refine ⟨.ref g2.objs.size,_,I3.laid (t':=tk2) (λ b o w'=>?_) (C8 _) (show ObjOk X.prog X.w _ _ _ (.lst ((p.map λ i=>ms.getD i 0).map MS)) from ⟨?_,_,c,?_,hcc⟩),rfl,q _ (p.map λ i=>ms.getD i 0) (I3.hok.fresh (C8 _)) ?_ λ k=>?_⟩
  ·have hlt:=Dp w'
   rw [sortedHeap_old (Dw hlt) (by rw [size_push']; exact FI hlt)]
   exact Dd _ w'
  ·rw [C6,C6,hpl,sizeLine_eq]; lia
  ·rw [EB]
   refine lh λ i hi'=>?_
   have hi2:i<us.length:=by rw [lu]; exact DN.mp (hp.mem_iff.mp hi')
   obtain ⟨t9,e9⟩:=HT.na hms hi2
   rw [e9]
   exact ⟨t9,rfl⟩
  ·have nd:(p.map λ i=>ms.getD i 0).Nodup:=hpm.symm.nodup (hmp.symm.nodup (fK _))
   have le:(p.map λ i=>ms.getD i 0).Pairwise (·<=·):=by
    rw [Fk]
    refine hs.imp λ {a b} h=>?_
    have:=of_decide_eq_false h.1
    lia
   exact (le.and nd).imp λ {a b} h=>by have h1:=h.1; have h2:=h.2; lia
  ·rw [hpm.mem_iff,hmp.mem_iff]
   exact hmet k
theorem yx {K:C7} {σ:St} {H:Hp} {Q:VK} (h:t σ H λ vs H1=>∃ (l:Addr) (ns:List Int),vs=[.ref l]/\SqL K H1 l (ns.map MS)/\ns.length<1000/\
 ∀ (d:Addr) (ms:List Int),H1 d=none->ms.Pairwise (· < ·)->(∀ k,k∈ms↔k∈ns)->Q (.ref d) (upd H1 d (.lst (ms.map MS)))):oz K t σ H Q:=h
end
section
variable {X:Cx}
end
section
variable {X:Cx}
variable {o e:Expr} {to:TE} {t:TA} {apos cpos:Pos}
end
section
variable {X:Cx} {pins:List (Addr×Obj)} {σ:St} {H:Hp} {s:Shared}
variable {N frs:List Str} {x qual:Str} {ix:List Nat} {scope:Scope} {cl:List (Str×Addr)} {params:Arguments} {body:Expr}
section
variable {te:TE} {t:TA} {p pos kpos lpos:Pos} {e:Expr} {k:Nat} {cc P:Addr}
end
end
end L2
namespace L2
open PySem PySem.Spec PyProof.Rows
noncomputable def HW.it:Nat->HW->HW
 | 0,st=>st
 | n+1,st=>(HW.it n st).step.2
def EndW (s0 st:HW):Prop:=∃ k,(HW.it k s0).step.1=none/\(∀ j,j<k->(HW.it j s0).step.1≠none)/\st=(HW.it k s0).step.2
theorem EndW.one {s0 st st':HW} (h:EndW s0 st) (h':EndW s0 st'):st=st':=by
 obtain ⟨k,a,b,rfl⟩:=h
 obtain ⟨k',a',b',rfl⟩:=h'
 have:k=k':=by
  rcases EL k k' with g | g | g
  ·exact absurd a (b' k g)
  ·exact g
  ·exact absurd a' (b k' g)
 rw [this]
section
variable {qs:List (Nat×Nat)} {b:Nat} {st:HW}
theorem rR (O:HwOk qs b st) (hq:∀ q∈qs,q.1<b):HwOk qs b st.step.2:=by
 rcases dG O hq with ⟨h1,h2,h3,h4,h5,h6,_⟩ | ⟨p,z,h1,h2,h3,h4,h5,h6,h7,h8,h9,_⟩ | ⟨p,z,h1,h2,h3,h4,h5,h6,h7,_⟩
 ·exact h6
 ·exact h9
 ·exact h7
theorem nr (hq:∀ q∈qs,q.1<b):∀ k,HwOk qs b (HW.it k (hw0 qs b))
 | 0=>ot qs b
 | k+1=>rR (nr hq k) hq
theorem vM (hq:∀ q∈qs,q.1<b):∃ st,EndW (hw0 qs b) st:=by
 have key:∀ n k,(HW.it k (hw0 qs b)).mu (qs.map Dc)<=n->(∀ j,j<k->(HW.it j (hw0 qs b)).step.1≠none)->∃ st,EndW (hw0 qs b) st:=by
  intro n
  induction n with
  | zero=>
   intro k hm hj
   rcases ll (nr hq k) hq with e | e
   ·exact ⟨_,k,e,hj,rfl⟩
   ·lia
  | succ n ih=>
   intro k hm hj
   by_cases e:(HW.it k (hw0 qs b)).step.1=none
   ·exact ⟨_,k,e,hj,rfl⟩
   ·rcases ll (nr hq k) hq with e' | e'
    ·exact absurd e' e
    ·refine ih (k+1) (by show (HW.it k (hw0 qs b)).step.2.mu _<=n; lia) λ j hj'=>?_
     by_cases g:j=k
     ·rw [g]; exact e
     ·exact hj j (by lia)
 exact key _ 0 (C8 _) λ j hj=>absurd hj (EF _)
theorem EndW.facts (hq:∀ q∈qs,q.1<b) (h:EndW (hw0 qs b) st):HwOk qs b st/\st.hd=none/\∀ g,g<b->∀ p,ai (qs.map Dc) g<=p->p<ai (qs.map Dc) (g+1)->isF st.ps g p=true:=by
 obtain ⟨k,a,_,rfl⟩:=h
 rcases dG (nr hq k) hq with ⟨h1,h2,h3,h4,h5,h6,h7,h8,h9⟩ | ⟨p,z,h1,h2,_⟩ | ⟨p,z,h1,h2,h3,h4,h5,h6,h7,h8,h9⟩
 ·exact ⟨h6,h4,by rw [h3]; exact h9⟩
 ·rw [h2] at a; cases a
 ·rcases h9 with ⟨_,h9⟩ | ⟨y,_,_,h9⟩<;>rw [h9] at a<;>cases a
theorem EndW.rise (hq:∀ q∈qs,q.1<b) (h:EndW (hw0 qs b) st):st.ps=(fm st.ps).map some/\(fm st.ps).Perm qs/\((fm st.ps).map Dc).Pairwise (·<=·):=by
 obtain ⟨O,hd,h2⟩:=h.facts hq
 have at_:∀ p,p<st.ps.length->∃ z f,st.ps.getD p none=some z/\z.1=f/\ai (qs.map Dc) f<=p/\p<ai (qs.map Dc) (f+1):=λ p hp=>by
  obtain ⟨f,f1,f2,f3⟩:=ib (qs.map Dc) b (λ o ho=>by obtain ⟨q,hq',rfl⟩:=DM.mp ho; exact hq q hq') (p:=p) (by rw [C6,<-O.pl]; exact hp)
  have k:=h2 f f1 p f2 f3
  unfold isF AJ at k
  cases e:st.ps.getD p none with
  | none=>rw [e] at k; cases k
  | some z=>rw [e] at k; exact ⟨z,f,rfl,of_decide_eq_true k,f2,f3⟩
 have e1:st.ps=(fm st.ps).map some:=by
  have all:∀ o∈st.ps,∃ z,o=some z:=λ o ho=>by
   obtain ⟨p,hp,rfl⟩:=Eh ho
   obtain ⟨z,f,e,_⟩:=at_ p hp
   rw [C5,C4 hp] at e
   exact ⟨z,e⟩
  generalize st.ps=ps at all
  induction ps with
  | nil=>rfl
  | cons o r ih=>
   obtain ⟨z,rfl⟩:=all o (DF ..)
   rw [eX]
   show some z::r=some z::(fm r).map some
   rw [<-ih λ x hx=>all x (DE _ hx)]
 have pe:=O.pe
 unfold HW.all at pe
 rw [hd,show (none:PR).toList=[] from rfl,Ef] at pe
 refine ⟨e1,pe,?_⟩
 rw [DK]
 intro i j hi hj hij
 rw [C6] at hi hj
 have hl:st.ps.length=(fm st.ps).length:=by rw [e1,C6,<-e1]
 have gi:∀ p (hp:p<(fm st.ps).length),st.ps.getD p none=some (fm st.ps)[p]:=λ p hp=>by
  have e2:st.ps[p]? = some (some (fm st.ps)[p]):=by
   conv=>lhs; rw [e1]
   rw [De,C4 hp]; rfl
  rw [C5,e2]; rfl
 obtain ⟨z1,f1,a1,a2,a3,a4⟩:=at_ i (by lia)
 obtain ⟨z2,f2,c1,c2,c3,c4⟩:=at_ j (by lia)
 rw [gi i hi] at a1
 rw [gi j hj] at c1
 cases a1; cases c1
 rw [Fb,Fb,a2,c2]
 rcases El f2 f1 with g | g
 ·have:=bn (os:=qs.map Dc) (show f2+1<=f1 from g)
  lia
 ·exact g
end
noncomputable def qsO (os:List Nat):List (Nat×Nat):=(C9 os.length).map λ i=>(os.getD i 0,i)
theorem eZ (os:List Nat):(qsO os).length=os.length:=by unfold qsO; simp
theorem rgD {α:Type} (xs:List α) (d:α):(C9 xs.length).map (λ i=>xs.getD i d)=xs:=by
 refine Fv (by simp) λ i h1 h2=>?_
 rw [Fb,Gg,C5,C4 h2]; rfl
theorem rS (os:List Nat):(qsO os).map Dc=os:=by
 unfold qsO
 rw [EB]
 exact rgD os 0
theorem jE {os:List Nat} (h:∀ o∈os,o<b):∀ q∈qsO os,q.1<b:=λ q hq=>h _ (by rw [<-rS os]; exact DM.mpr ⟨q,hq,rfl⟩)
noncomputable def oA (os:List Nat) (b:Nat):HW:=@dite _ (∃ st,EndW (hw0 (qsO os) b) st) (LV _) (λ h=>h.choose) (λ _=>hw0 (qsO os) b)
theorem ls {os:List Nat} (h:∃ st,EndW (hw0 (qsO os) b) st):EndW (hw0 (qsO os) b) (oA os b):=by
 unfold oA
 rw [dif_pos h]
 exact h.choose_spec
theorem lv {os:List Nat} {st:HW} (h:EndW (hw0 (qsO os) b) st):st=oA os b:=h.one (ls ⟨_,h⟩)
noncomputable def hsO (os:List Nat) (b:Nat):List Nat:=(fm (oA os b).ps).map LR
noncomputable def hpO (os:List Nat) (b:Nat):Nat:=(oA os b).pt
theorem gK {os:List Nat} (h:∀ o∈os,o<b):(oA os b).ps=((hsO os b).map λ i=>some (os.getD i 0,i))/\(hsO os b).Perm (C9 os.length)/\((hsO os b).map λ i=>os.getD i 0).Pairwise (·<=·):=by
 obtain ⟨e1,pe,pw⟩:=(ls (vM (jE h))).rise (jE h)
 have hz:∀ z∈fm (oA os b).ps,z=(os.getD z.2 0,z.2):=λ z hz=>by
  have:=(pe.mem_iff).mp hz
  unfold qsO at this
  obtain ⟨i,_,rfl⟩:=DM.mp this
  rfl
 refine ⟨?_,?_,?_⟩
 ·unfold hsO
  rw [EB]
  conv=>lhs; rw [e1]
  exact Ep λ z hm=>by
   show some z=some (os.getD z.2 0,z.2)
   rw [<-hz z hm]
 ·have:=pe.map LR
  unfold hsO
  refine this.trans ?_
  unfold qsO
  rw [EB]
  exact KH (JP _)
 ·unfold hsO
  rw [EB]
  have:(fm (oA os b).ps).map ((λ i=>os.getD i 0)∘LR)=(fm (oA os b).ps).map Dc:=Ep λ z hm=>by
   show os.getD z.2 0=z.1
   rw [hz z hm]
  rw [this]
  exact pw
noncomputable def aE (c:Nat) (xs:List (List Nat)):List Nat:=xs.map λ r=>r.getD c 0
noncomputable def hsR (b c:Nat) (xs:List (List Nat)):List (List Nat):=(hsO (aE c xs) b).map λ i=>xs.getD i []
theorem bH (c:Nat) (xs:List (List Nat)):(aE c xs).length=xs.length:=C6 ..
theorem cn {xs:List (List Nat)} (h:∀ r∈xs,r.getD c 0<b):∀ o∈aE c xs,o<b:=λ o ho=>by
 obtain ⟨r,hr,rfl⟩:=DM.mp ho
 exact h r hr
theorem iZ {xs:List (List Nat)} (h:∀ r∈xs,r.getD c 0<b):(hsR b c xs).Perm xs:=by
 obtain ⟨_,pe,_⟩:=gK (cn h)
 refine (pe.map λ i=>xs.getD i []).trans ?_
 rw [bH]
 exact KH (rgD xs [])
theorem uX {xs:List (List Nat)} (h:∀ r∈xs,r.getD c 0<b):(aE c (hsR b c xs)).Pairwise (·<=·):=by
 obtain ⟨_,pe,pw⟩:=gK (cn h)
 have:aE c (hsR b c xs)=(hsO (aE c xs) b).map λ i=>(aE c xs).getD i 0:=by
  unfold hsR
  conv=>lhs; unfold aE
  rw [EB]
  refine Ep λ i hi=>?_
  have hl:i<xs.length:=by
   have:=pe.mem_iff.mp hi
   rw [bH] at this
   exact DN.mp this
  show (xs.getD i []).getD c 0=(aE c xs).getD i 0
  unfold aE
  rw [C5 (l:=xs.map _),De,C5 (l:=xs),C4 hl]; rfl
 rw [this]
 exact pw
theorem block (c:Nat):∀ {ys:List (List Nat)} (_:(aE c ys).Pairwise (·<=·)) (g:Nat),(ys.drop (ai (aE c ys) g)).take ((aE c ys).count g)=ys.filter λ r=>decide (r.getD c 0=g)
 | [],_,g=>by simp
 | r::ys,h,g=>by
  have h':(r.getD c 0::aE c ys).Pairwise (·<=·):=h
  rw [Em] at h'
  have ih:=block c h'.2 g
  have e1:aE c (r::ys)=r.getD c 0::aE c ys:=rfl
  rw [e1,FU]
  generalize hf:r.getD c 0=f at h'
  have hl:ai (f::aE c ys) g=(if f<g then 1 else 0)+ai (aE c ys) g:=by
   unfold ai
   rw [IF]
   by_cases q:f<g
   ·rw [if_pos (by simpa using q),if_pos q]; lia
   ·rw [if_neg (by simpa using q),if_neg q]; lia
  rcases EL f g with q | q | q
  ·rw [hl,if_pos q,if_neg (by simpa using Dw q),List.count_cons_of_ne (by simpa using Dw q),IB 1,JB]
   exact ih
  ·subst q
   have z:ai (aE c ys) f=0:=by
    unfold ai
    rw [Ft]
    intro x hx
    have:=h'.1 x hx
    simpa using this
   rw [z] at ih
   rw [hl,if_neg (EM _),z,if_pos (by simp),Js,DZ,GA]
   rw [DZ] at ih
   rw [ih]
  ·have z:(f::aE c ys).count g=0:=by
    rw [GG]
    intro hx
    rcases Dx.mp hx with e | e
    ·lia
    ·have:=h'.1 g e; lia
   rw [z,Ji,if_neg (by simpa using E8 q)]
   symm
   rw [Fx]
   intro x hx
   have:=h'.1 (x.getD c 0) (DM.mpr ⟨x,hx,rfl⟩)
   simp only [decide_eq_true_eq]
   lia
noncomputable def hH (b c:Nat) (xs:List (List Nat)):List (List Nat):=if bD (cnt (aE c xs) 64)=true then hsR b c xs else xs
noncomputable def hP (b c:Nat) (xs:List (List Nat)):Nat:=if bD (cnt (aE c xs) 64)=true then hpO (aE c xs) b else 0
noncomputable def hT (b:Nat):Nat->Nat->List (List Nat)->Nat
 | 0,_,_=>0
 | n+1,c,xs=>if xs.length<=1 then 0 else hP b c xs+((C9 64).map λ g=>hT b n (c+1) ((hH b c xs).filter λ r=>decide (r.getD c 0=g))).sum
theorem gL {xs:List (List Nat)} (h:xs.length<=1):∀ n,hT b n c xs=0
 | 0=>rfl
 | n+1=>by unfold hT; rw [if_pos h]
theorem jF {xs:List (List Nat)} (h:¬ xs.length<=1):hT b (n+1) c xs=hP b c xs+((C9 64).map λ g=>hT b n (c+1) ((hH b c xs).filter λ r=>decide (r.getD c 0=g))).sum:=by
 conv=>lhs; unfold hT
 rw [if_neg h]
noncomputable def cf (xs:List (List Nat)) (f l:Nat):List (List Nat):=(xs.drop f).take (l - f)
noncomputable def nw (b:Nat) (z:List (List Nat)×Nat) (s:ce):List (List Nat)×Nat:=(z.1.take s.1++hsR b s.2.2 (cf z.1 s.1 s.2.1)++z.1.drop s.2.1,z.2+hpO (aE s.2.2 (cf z.1 s.1 s.2.1)) b)
noncomputable def bu (b:Nat) (rss:List (List Nat)) (sts:List ce):List (List Nat)×Nat:=sts.foldl (nw b) (rss,0)
theorem ic {α:Type} {xs:List α} (hfl:f<=l) (hl:l<=xs.length):((xs.drop f).take (l - f)).length=l - f:=by rw [Df,DU]; lia
theorem rT {α:Type} {xs:List α} (h1:f<=i) (h2:i<l) (hl:l<=xs.length) (d:α):xs.getD i d∈(xs.drop f).take (l - f):=by
 have hi:i<xs.length:=by lia
 rw [C5,C4 hi]
 refine List.mem_iff_getElem?.mpr ⟨i - f,?_⟩
 rw [D6 (by lia),EA,show f+(i - f)=i by lia,C4 hi]; rfl
theorem rV {α:Type} {xs ys:List α} {a e:Nat} (hfl:f<=l) (hl:l<=xs.length) (hy:ys.length=l - f) (hae:a<=e) (h:e<=f\/l<=a):((xs.take f++ys++xs.drop l).drop a).take (e - a)=(xs.drop a).take (e - a):=by
 refine Gn λ i=>?_
 by_cases hi:i<e - a
 ·rw [D6 hi,D6 hi,EA,EA]
  rcases h with h | h
  ·rw [DH,Do (by rw [Df]; lia),D6 (by lia)]
  ·rw [Dy (by rw [Dg,Df,hy]; lia),Dg,Df,hy,EA]
   congr 1
   lia
 ·rw [Ea (by rw [Df]; lia),Ea (by rw [Df]; lia)]
theorem vN {α:Type} {xs ys:List α} {a e:Nat} (hfl:f<=l) (hl:l<=xs.length) (hy:ys.length=l - f) (hae:a<=e) (he:e<=l - f):((xs.take f++ys++xs.drop l).drop (f+a)).take (f+e - (f+a))=(ys.drop a).take (e - a):=by
 have e1:f+e - (f+a)=e - a:=by lia
 rw [e1]
 refine Gn λ i=>?_
 by_cases hi:i<e - a
 ·rw [D6 hi,D6 hi,EA,EA,DH,Dy (by rw [Df]; lia),Df,Do (by lia)]
  congr 1
  lia
 ·rw [Ea (by rw [Df]; lia),Ea (by rw [Df]; lia)]
theorem oB {α:Type} {xs ys:List α} {d:α} (hfl:f<=l) (hl:l<=xs.length) (hy:ys.length=l - f) (h:i<f\/l<=i):(xs.take f++ys++xs.drop l).getD i d=xs.getD i d:=by
 rw [C5,C5]
 congr 1
 rcases h with h | h
 ·rw [DH,Do (by rw [Df]; lia),D6 h]
 ·rw [Dy (by rw [Dg,Df,hy]; lia),Dg,Df,hy,EA]
  congr 1
  lia
theorem lx {α:Type} {xs:List α} (hfl:f<=l):xs.take f++(xs.drop f).take (l - f)++xs.drop l=xs:=by
 have e1:xs.drop l=(xs.drop f).drop (l - f):=by rw [Hh]; congr 1; lia
 rw [e1,DH,DP,DP]
structure Hpr (rss:List (List Nat)) (C b:Nat) (os:List Nat) (us:List ce) (RS:List (List Nat)) (p:Nat):Prop where
 op:os.Perm (C9 rss.length)
 pm:RS.Perm rss
 dis:us.Pairwise λ s t=>s.2.1<=t.1\/t.2.1<=s.1
 bnd:∀ s∈us,s.1<=s.2.1/\s.2.1<=rss.length/\s.2.2<=C
 pe:∀ s∈us,(cf RS s.1 s.2.1).Perm ((cH os s.1 s.2.1).map λ i=>rss.getD i [])
 like:∀ s∈us,∀ r∈cf RS s.1 s.2.1,∀ r'∈cf RS s.1 s.2.1,r.take s.2.2=r'.take s.2.2
 fix:∀ i,i<rss.length->(∀ s∈us,¬ (s.1<=i/\i<s.2.1))->RS.getD i []=rss.getD (os.getD i 0) []
 sum:p+(us.map λ s=>hT b (C - s.2.2) s.2.2 (cf RS s.1 s.2.1)).sum=hT b C 0 rss
theorem bV {α:Type} (f:α->Nat) (p:α->Bool):∀ (xs:List α),(∀ x∈xs,p x=false->f x=0)->((xs.filter p).map f).sum=(xs.map f).sum
 | [],_=>rfl
 | x::xs,h=>by
  have ih:=bV f p xs λ y hy=>h y (DE _ hy)
  rw [FU]
  cases e:p x with
  | true=>rw [if_pos rfl,Er,Es,Er,Es,ih]
  | false=>rw [if_neg (by simp),Er,Es,h x (DF ..) e,ih,EG]
theorem Hpr.live {rss:List (List Nat)} {C p:Nat} {os:List Nat} {us:List ce} {RS:List (List Nat)} (h:Hpr rss C b os us RS p) (hw:∀ r∈rss,r.length=C):Hpr rss C b os (us.filter (act C)) RS p:=by
 have hRl:RS.length=rss.length:=h.pm.length_eq
 have hol:os.length=rss.length:=by rw [h.op.length_eq,DR]
 have sub:∀ s∈us.filter (act C),s∈us:=λ s hs=>(Ee.mp hs).1
 have dead:∀ s∈us,act C s=false->s.2.1<=s.1+1\/s.2.2=C:=λ s hs e=>by
  have hb:=(h.bnd s hs).2.2
  unfold act at e
  rw [Bool.and_eq_false_iff,decide_eq_false_iff_not,decide_eq_false_iff_not] at e
  lia
 refine ⟨h.op,h.pm,h.dis.filter _,λ s hs=>h.bnd s (sub s hs),λ s hs=>h.pe s (sub s hs),λ s hs=>h.like s (sub s hs),λ i hi hn=>?_,?_⟩
 ·by_cases q:∃ s∈us,s.1<=i/\i<s.2.1
  ·obtain ⟨s,hs,h1,h2⟩:=q
   have hd:act C s=false:=by
    cases e:act C s with
    | false=>rfl
    | true=>exact absurd ⟨h1,h2⟩ (hn s (Ee.mpr ⟨hs,e⟩))
   obtain ⟨b1,b2,b3⟩:=h.bnd s hs
   have m1:RS.getD i []∈cf RS s.1 s.2.1:=rT h1 h2 (by lia) []
   have m2:rss.getD (os.getD i 0) []∈cf RS s.1 s.2.1:=(h.pe s hs).mem_iff.mpr (DM.mpr ⟨_,rT h1 h2 (by lia) 0,rfl⟩)
   rcases dead s hs hd with g | g
   ·have hl:(cf RS s.1 s.2.1).length<=1:=by unfold cf; rw [Df]; lia
    generalize cf RS s.1 s.2.1=ss at m1 m2 hl
    match ss,m1,m2,hl with
    | [x],m1,m2,_=>rw [Dk.mp m1,Dk.mp m2]
    | x::y::r,_,_,hl=>simp at hl
   ·have e:=h.like s hs _ m1 _ m2
    have l1:(RS.getD i []).length=C:=hw _ (h.pm.mem_iff.mp (DO (DL m1)))
    have l2:(rss.getD (os.getD i 0) []).length=C:=hw _ (h.pm.mem_iff.mp (DO (DL m2)))
    rw [g,Da (by lia),Da (by lia)] at e
    exact e
  ·exact h.fix i hi λ s hs z=>q ⟨s,hs,z⟩
 ·rw [bV _ _ us λ s hs e=>?_]
  ·exact h.sum
  ·rcases dead s hs e with g | g
   ·exact gL (by unfold cf; rw [Df]; lia) _
   ·rw [g,FT]; rfl
theorem kt {xs ys:List Nat} (h:xs.Perm ys) (g:Nat):ai xs g=ai ys g:=h.countP_eq _
theorem e6 {xs ys:List (List Nat)} (h:xs.Perm ys):(aE c xs).Perm (aE c ys):=h.map _
theorem cR (rss:List (List Nat)) (c:Nat) (os:List Nat) (h:∀ o∈os,o<rss.length):gc rss c os=aE c (os.map λ i=>rss.getD i []):=by
 unfold gc aE fz
 rw [EB]
 refine Ep λ i hi=>?_
 have hl:=h i hi
 show (rss.map λ r=>r.getD c 0).getD i 0=(rss.getD i []).getD c 0
 rw [C5 (l:=rss.map _),De,C5 (l:=rss),C4 hl]; rfl
theorem Hpr.go {rss:List (List Nat)} {C p q:Nat} {os so:List Nat} {us:List ce} {RS ys:List (List Nat)} (h:Hpr rss C b os (us++[(f,l,c)]) RS p) (hw:∀ r∈rss,r.length=C/\∀ x∈r,x<64) (hc:c<C)
  (hys:ys.Perm (cf RS f l)) (hyr:(aE c ys).Pairwise (·<=·)) (hso:so.Perm (cH os f l)) (hsr:(gc rss c so).Pairwise (·<=·))
  (hq:q+((C9 64).map λ g=>hT b (C - (c+1)) (c+1) (ys.filter λ r=>decide (r.getD c 0=g))).sum=hT b (C - c) c (cf RS f l)) :
  Hpr rss C b (os.take f++so++os.drop l) (us++(aF f (cnt (gc rss c (cH os f l)) 64) (c+1)).reverse) (RS.take f++ys++RS.drop l) (p+q):=by
 have hin:(f,l,c)∈us++[(f,l,c)]:=by simp
 obtain ⟨hfl,hl,_⟩:=h.bnd _ hin
 have hfl:f<=l:=hfl
 have hl:l<=rss.length:=hl
 have hRl:RS.length=rss.length:=h.pm.length_eq
 have hol:os.length=rss.length:=by rw [h.op.length_eq,DR]
 have hlt:∀ o∈os,o<rss.length:=λ o ho=>DN.mp (h.op.mem_iff.mp ho)
 have hyl:ys.length=l - f:=by rw [hys.length_eq]; exact ic hfl (by lia)
 have hsl:so.length=l - f:=by rw [hso.length_eq]; exact ic hfl (by lia)
 have hpe:=h.pe _ hin
 have hslt:∀ o∈so,o<rss.length:=λ o ho=>hlt o (DO (DL (hso.mem_iff.mp ho)))
 have hglt:∀ o∈cH os f l,o<rss.length:=λ o ho=>hlt o (DO (DL ho))
 -- the figures,in aL orders
 have hrow:(aE c ys).Perm (gc rss c (cH os f l)):=by
  rw [cR rss c _ hglt]
  exact e6 (hys.trans hpe)
 have hso2:(gc rss c so).Perm (gc rss c (cH os f l)):=hso.map _
 have hrl:(gc rss c (cH os f l)).length=l - f:=by rw [<-hrow.length_eq,bH,hyl]
 have hr64:∀ o∈gc rss c (cH os f l),o<64:=λ o ho=>by
  rw [cR rss c _ hglt] at ho
  obtain ⟨r,hr,rfl⟩:=DM.mp ho
  obtain ⟨i,hi,rfl⟩:=DM.mp hr
  have hm:rss.getD i []∈rss:=by rw [C5,C4 (hglt i hi)]; exact Dl _
  obtain ⟨e1,e2⟩:=hw _ hm
  have hcl:c<(rss.getD i []).length:=by lia
  generalize rss.getD i []=r at e2 hcl
  show r.getD c 0<64
  rw [C5,C4 hcl]
  exact e2 _ (Dl _)
 generalize hrd:gc rss c (cH os f l)=row at hrow hso2 hrl hr64
 have blkY:∀ g,(ys.drop (ai row g)).take (ai row (g+1) - ai row g)=ys.filter λ r=>decide (r.getD c 0=g):=λ g=>by
  have:=block c hyr g
  rw [kt hrow,hrow.count_eq] at this
  rw [aM,IM]
  exact this
 have blkS:∀ g,((so.drop (ai row g)).take (ai row (g+1) - ai row g)).map (λ i=>rss.getD i [])=(so.map λ i=>rss.getD i []).filter λ r=>decide (r.getD c 0=g):=λ g=>by
  have hx:(aE c (so.map λ i=>rss.getD i [])).Pairwise (·<=·):=by rw [<-cR rss c _ hslt]; exact hsr
  have:=block c hx g
  rw [<-cR rss c _ hslt,kt hso2,hso2.count_eq] at this
  rw [aM,IM,Fn,Fo]
  exact this
 have lle:∀ g,ai row g<=l - f:=λ g=>by rw [<-hrl]; exact c9 _ _
 have lmo:∀ g,ai row g<=ai row (g+1):=λ g=>bn (by lia)
 have inner:∀ g,cf (RS.take f++ys++RS.drop l) (f+ai row g) (f+ai row (g+1))=ys.filter λ r=>decide (r.getD c 0=g):=λ g=>by
  unfold cf
  rw [vN hfl (by lia) hyl (lmo g) (lle _)]
  exact blkY g
 have innerS:∀ g,(cH (os.take f++so++os.drop l) (f+ai row g) (f+ai row (g+1))).map (λ i=>rss.getD i [])=(so.map λ i=>rss.getD i []).filter λ r=>decide (r.getD c 0=g):=λ g=>by
  unfold cH
  rw [vN hfl (by lia) hsl (lmo g) (lle _)]
  exact blkS g
 have apart:∀ s∈us,s.2.1<=f\/l<=s.1:=λ s hs=>by
  have:=(Dq.mp h.dis).2.2 s hs (f,l,c) (by simp)
  exact this
 have outer:∀ s∈us,cf (RS.take f++ys++RS.drop l) s.1 s.2.1=cf RS s.1 s.2.1:=λ s hs=>rV hfl (by lia) hyl (h.bnd s (by simp [hs])).1 (apart s hs)
 have outerS:∀ s∈us,cH (os.take f++so++os.drop l) s.1 s.2.1=cH os s.1 s.2.1:=λ s hs=>rV hfl (by lia) hsl (h.bnd s (by simp [hs])).1 (apart s hs)
 have pt:∀ s∈us++(aF f (cnt row 64) (c+1)).reverse,s∈us\/∃ g,g<64/\s=(f+ai row g,f+ai row (g+1),c+1):=λ s hs=>by
  rcases DG.mp hs with m | m
  ·exact .inl m
  ·exact .inr (cG (ET.mp m))
 have ySeg:∀ r∈ys,r∈cf RS f l:=λ r hr=>hys.mem_iff.mp hr
 have yRss:∀ r∈ys,r∈rss:=λ r hr=>h.pm.mem_iff.mp (DO (DL (ySeg r hr)))
 refine ⟨?_,?_,?_,?_,?_,?_,?_,?_⟩
 ·refine Fi ?_ h.op
  conv=>rhs; rw [<-hZ (os:=os) hfl]
  exact ((D0 _).append hso).append (D0 _)
 ·refine Fi ?_ h.pm
  have e:RS.take f++cf RS f l++RS.drop l=RS:=by
   unfold cf
   exact lx hfl
  conv=>rhs; rw [<-e]
  exact ((D0 _).append hys).append (D0 _)
 ·rw [Dq]
  refine ⟨(Dq.mp h.dis).1,?_,λ s hs t ht=>?_⟩
  ·rw [Je]
   exact partsF_dis.imp λ {s t} g=>g.symm
  ·obtain ⟨g,hg,rfl⟩:=cG (ET.mp ht)
   have a1:=apart s hs
   have a2:=lle (g+1)
   show s.2.1<=f+ai row g\/f+ai row (g+1)<=s.1
   lia
 ·intro s hs
  rcases pt s hs with m | ⟨g,hg,rfl⟩
  ·exact h.bnd s (by simp [m])
  ·have a2:=lle (g+1)
   have a3:=lmo g
   refine ⟨by show f+ai row g<=f+ai row (g+1); lia,by show f+ai row (g+1)<=rss.length; lia,by show c+1<=C; lia⟩
 ·intro s hs
  rcases pt s hs with m | ⟨g,hg,rfl⟩
  ·rw [outer s m,outerS s m]; exact h.pe s (by simp [m])
  ·show (cf _ (f+ai row g) (f+ai row (g+1))).Perm ((cH _ (f+ai row g) (f+ai row (g+1))).map _)
   rw [inner g,innerS g]
   exact ((hys.trans hpe).trans (hso.symm.map _)).filter _
 ·intro s hs r hr r' hr'
  rcases pt s hs with m | ⟨g,hg,rfl⟩
  ·rw [outer s m] at hr hr'; exact h.like s (by simp [m]) r hr r' hr'
  ·have hr1:r∈cf _ (f+ai row g) (f+ai row (g+1)):=hr
   have hr2:r'∈cf _ (f+ai row g) (f+ai row (g+1)):=hr'
   rw [inner g] at hr1 hr2
   obtain ⟨m1,g1⟩:=Ee.mp hr1
   obtain ⟨m2,g2⟩:=Ee.mp hr2
   have e0:=h.like _ hin r (ySeg r m1) r' (ySeg r' m2)
   have e0:r.take c=r'.take c:=e0
   have l1:c<r.length:=by rw [(hw r (yRss r m1)).1]; exact hc
   have l2:c<r'.length:=by rw [(hw r' (yRss r' m2)).1]; exact hc
   have g1:r.getD c 0=g:=of_decide_eq_true g1
   have g2:r'.getD c 0=g:=of_decide_eq_true g2
   rw [C5,C4 l1] at g1
   rw [C5,C4 l2] at g2
   show r.take (c+1)=r'.take (c+1)
   rw [Dz,Dz,e0,C4 l1,C4 l2]
   have g1:r[c]=g:=g1
   have g2:r'[c]=g:=g2
   rw [g1,g2]
 ·intro i hi hn
  by_cases hfi:f<=i/\i<l
  ·exfalso
   obtain ⟨g,hg,g1,g2⟩:=ib row 64 hr64 (p:=i - f) (by lia)
   refine hn (f+ai row g,f+ai row (g+1),c+1) (Dj _ (ET.mpr (kl hg))) ⟨?_,?_⟩
   ·show f+ai row g<=i; lia
   ·show i<f+ai row (g+1); lia
  ·rw [oB hfl (by lia) hyl (by lia),oB hfl (by lia) hsl (by lia)]
   refine h.fix i hi λ s hs z=>?_
   rcases DG.mp hs with m | m
   ·exact hn s (D3 _ m) z
   ·rw [Dk.mp m] at z
    exact hfi z
 ·have hs:=h.sum
  rw [Dr,ER] at hs
  rw [Dr,ER]
  have e1:(us.map λ s=>hT b (C - s.2.2) s.2.2 (cf (RS.take f++ys++RS.drop l) s.1 s.2.1))=us.map λ s=>hT b (C - s.2.2) s.2.2 (cf RS s.1 s.2.1):=Ep λ s m=>by rw [outer s m]
  have e2:((aF f (cnt row 64) (c+1)).reverse.map λ s=>hT b (C - s.2.2) s.2.2 (cf (RS.take f++ys++RS.drop l) s.1 s.2.1)).sum=((C9 64).map λ g=>hT b (C - (c+1)) (c+1) (ys.filter λ r=>decide (r.getD c 0=g))).sum:=by
   rw [IH,Kp]
   have e3:(aF f (cnt row 64) (c+1))=(C9 64).map λ g=>(f+ai row g,f+ai row (g+1),c+1):=by
    unfold aF
    rw [aS]
    refine Ep λ g hg=>?_
    have hg:=DN.mp hg
    rw [bh row 64 g (by lia),aM,C5,bU hg,Gc]; rfl
   rw [e3,EB]
   refine congrArg List.sum (Ep λ g _=>?_)
   show hT b (C - (c+1)) (c+1) (cf _ (f+ai row g) (f+ai row (g+1)))=_
   rw [inner g]
  rw [e1,e2]
  have e4:(([(f,l,c)]:List ce).map λ s=>hT b (C - s.2.2) s.2.2 (cf RS s.1 s.2.1)).sum=hT b (C - c) c (cf RS f l):=by simp
  rw [e4] at hs
  lia
theorem Fst.heaps {rss:List (List Nat)} {C:Nat} {os:List Nat} {st us:List ce} (hw:∀ r∈rss,r.length=C/\∀ x∈r,x<b) (hb:b<=64) (h:Fst rss C os st us):Hpr rss C b os us (bu b rss st).1 (bu b rss st).2:=by
 have hw1:∀ r∈rss,r.length=C:=λ r hr=>(hw r hr).1
 have hw2:∀ r∈rss,r.length=C/\∀ x∈r,x<64:=λ r hr=>⟨(hw r hr).1,λ x hx=>Ds ((hw r hr).2 x hx) hb⟩
 have keep:∀ {us:List ce} {n:Nat},(∀ s∈us,s.1+2<=s.2.1/\s.2.1<=n/\s.2.2<C)->us.filter (act C)=us:=λ h=>by
  rw [List.filter_eq_self]
  intro s hs
  obtain ⟨a,_,c⟩:=h s hs
  unfold act
  rw [decide_eq_true a,decide_eq_true c]; rfl
 -- what a stretch of the rows has
 have col:∀ {RS:List (List Nat)} {f l c:Nat},RS.Perm rss->c<C->∀ r∈cf RS f l,r.getD c 0<b:=λ {RS f l c} hp hc r hr=>by
  obtain ⟨e1,e2⟩:=hw r (hp.mem_iff.mp (DO (DL hr)))
  have hcl:c<r.length:=by lia
  rw [C5,C4 hcl]
  exact e2 _ (Dl _)
 have inv:=λ {os:List Nat} {st us:List ce} (h:Fst rss C os st us)=>h.inv
 induction h with
 | start=>
  refine Hpr.live (us:=[(0,rss.length,0)]) ?_ hw1
  refine ⟨D0 _,D0 _,Ga _ _,λ s hs=>?_,λ s hs=>?_,λ s hs r _ r' _=>?_,λ i hi hn=>?_,?_⟩
  ·rw [Dk.mp hs]; exact ⟨Du _,C8 _,Du _⟩
  ·rw [Dk.mp hs]
   show (cf rss 0 rss.length).Perm ((cH (C9 rss.length) 0 rss.length).map _)
   unfold cf cH
   rw [DZ,DZ,G6,Da (C8 _),Da (by simp),rgD]
  ·rw [Dk.mp hs]; rfl
  ·exact absurd ⟨Du _,hi⟩ (hn (0,rss.length,0) (Dk.mpr rfl))
  ·show 0+([(0,rss.length,0)].map λ s:ce=>hT b (C - s.2.2) s.2.2 (cf rss s.1 s.2.1)).sum=_
   have:cf rss 0 rss.length=rss:=by unfold cf; rw [DZ,G6,Da (C8 _)]
   simp [this]
 | @step os ob st us f l c hF hp hB ih=>
  obtain ⟨a1,a2⟩:=inv hF
  have a3:=a2 (f,l,c) (Dj _ (Dk.mpr rfl))
  obtain ⟨b1,b2,b3⟩:=a3
  have b1:f+2<=l:=b1
  have b2:l<=rss.length:=b2
  have b3:c<C:=b3
  have hRl:(bu b rss st).1.length=rss.length:=ih.pm.length_eq
  have eF:bu b rss (st++[(f,l,c)])=nw b (bu b rss st) (f,l,c):=by unfold bu; rw [Kb]; rfl
  have hcol:=col (f:=f) (l:=l) ih.pm b3
  have hpe:(cf (bu b rss st).1 f l).Perm ((cH os f l).map λ i=>rss.getD i []):=ih.pe (f,l,c) (by simp)
  have hglt:∀ o∈cH os f l,o<rss.length:=λ o ho=>DN.mp (a1.mem_iff.mp (DO (DL ho)))
  have hpt:bD (cnt (aE c (cf (bu b rss st).1 f l)) 64)=true:=by
   rw [nU (e6 hpe),<-cR rss c _ hglt]; exact hp
  have hlen:(cf (bu b rss st).1 f l).length=l - f:=ic (by lia) (by lia)
  have hfl:(gc rss c (cH os f l)).length=(cH os f l).length:=by unfold gc; rw [C6]
  have hO:=hB.ord
  rw [hfl] at hO
  have go:=Hpr.go (q:=hpO (aE c (cf (bu b rss st).1 f l)) b) ih hw2 b3 (iZ hcol) (uX hcol) (so:=cmp (cH os f l) ob) (kX hO.perm) ?_ ?_
  ·have:=go.live hw1
   rw [ES,Hd,keep λ s hs=>a2 s (D3 _ hs)] at this
   rw [eF]
   exact this
  ·have hlt:∀ j∈ob,j<(cH os f l).length:=λ j hj=>hO.lt j hj
   have:gc rss c (cmp (cH os f l) ob)=ob.map λ j=>(gc rss c (cH os f l)).getD j 0:=by
    unfold cmp
    conv=>lhs; unfold gc
    rw [EB]
    refine Ep λ j hj=>?_
    have hl:=hlt j hj
    show (fz rss c).getD ((cH os f l).getD j 0) 0=(gc rss c (cH os f l)).getD j 0
    unfold gc
    rw [C5 (l:=(cH os f l).map _),De,C4 hl,C5 (l:=cH os f l),C4 hl]; rfl
   rw [this,Fk]
   exact hB.rise.imp λ {i j} g=>by lia
  ·have e:C - c=(C - (c+1))+1:=by lia
   rw [e,jF (by lia)]
   unfold hP hH
   rw [if_pos hpt,if_pos hpt]
 | @stay os st us f l c hF hp ih=>
  obtain ⟨a1,a2⟩:=inv hF
  have a3:=a2 (f,l,c) (Dj _ (Dk.mpr rfl))
  obtain ⟨b1,b2,b3⟩:=a3
  have b1:f+2<=l:=b1
  have b2:l<=rss.length:=b2
  have b3:c<C:=b3
  have hRl:(bu b rss st).1.length=rss.length:=ih.pm.length_eq
  have hcol:=col (f:=f) (l:=l) ih.pm b3
  have hpe:(cf (bu b rss st).1 f l).Perm ((cH os f l).map λ i=>rss.getD i []):=ih.pe (f,l,c) (by simp)
  have hglt:∀ o∈cH os f l,o<rss.length:=λ o ho=>DN.mp (a1.mem_iff.mp (DO (DL ho)))
  have hpt:¬ bD (cnt (aE c (cf (bu b rss st).1 f l)) 64)=true:=by
   rw [nU (e6 hpe),<-cR rss c _ hglt,hp]; simp
  have hlen:(cf (bu b rss st).1 f l).length=l - f:=ic (by lia) (by lia)
  have h64:∀ o∈aE c (cf (bu b rss st).1 f l),o<64:=λ o ho=>Ds (cn hcol o ho) hb
  have alike:∀ o∈aE c (cf (bu b rss st).1 f l),∀ o'∈aE c (cf (bu b rss st).1 f l),o=o':=λ o ho o' ho'=>hE h64 hpt ho ho'
  have alike2:∀ o∈gc rss c (cH os f l),∀ o'∈gc rss c (cH os f l),o=o':=λ o ho o' ho'=>by
   rw [cR rss c _ hglt] at ho ho'
   exact alike o ((e6 hpe).mem_iff.mpr ho) o' ((e6 hpe).mem_iff.mpr ho')
  have pw:∀ {xs:List Nat},(∀ o∈xs,∀ o'∈xs,o=o')->xs.Pairwise (·<=·):=λ {xs} h=>DK.mpr λ i j hi hj _=>EZ (h _ (Dl hi) _ (Dl hj))
  have go:=Hpr.go (q:=0) ih hw2 b3 (ys:=cf (bu b rss st).1 f l) (D0 _) (pw alike) (so:=cH os f l) (D0 _) (pw alike2) ?_
  ·have:=go.live hw1
   rw [ES,Hd,keep λ s hs=>a2 s (D3 _ hs),hZ (by lia)] at this
   have e:(bu b rss st).1.take f++cf (bu b rss st).1 f l++(bu b rss st).1.drop l=(bu b rss st).1:=lx (by lia)
   rw [e,FS] at this
   exact this
  ·have e:C - c=(C - (c+1))+1:=by lia
   rw [e,jF (by lia)]
   unfold hP hH
   rw [if_neg hpt,if_neg hpt]
theorem Fst.heaped {rss:List (List Nat)} {C:Nat} {os:List Nat} {st:List ce} (hw:∀ r∈rss,r.length=C/\∀ x∈r,x<b) (hb:b<=64) (h:Fst rss C os st []):(bu b rss st).1=os.map (λ i=>rss.getD i [])/\(bu b rss st).2=hT b C 0 rss:=by
 have P:=h.heaps hw hb
 have hRl:(bu b rss st).1.length=rss.length:=P.pm.length_eq
 have hol:os.length=rss.length:=by rw [P.op.length_eq,DR]
 refine ⟨Fv (by rw [C6,hRl,hol]) λ i h1 h2=>?_,by simpa using P.sum⟩
 have:=P.fix i (by lia) λ s hs=>by cases hs
 rw [C5,C4 h1] at this
 rw [Fb]
 rw [C6] at h2
 rw [C5 (l:=os),C4 h2] at this
 exact this
theorem Fst.stb {rss:List (List Nat)} {C:Nat} {os:List Nat} {st us:List ce} (h:Fst rss C os st us):∀ s∈st,s.1+2<=s.2.1/\s.2.1<=rss.length/\s.2.2<C:=by
 induction h with
 | start=>intro s hs; cases hs
 | step hF hp hB ih=>
  intro s hs
  rcases DG.mp hs with m | m
  ·exact ih s m
  ·rw [Dk.mp m]
   exact hF.inv.2 _ (Dj _ (Dk.mpr rfl))
 | stay _ _ ih=>exact ih
theorem ku {rss:List (List Nat)} {sts:List ce} {s:ce} (h:sts[i]? = some s):bu b rss (sts.take (i+1))=nw b (bu b rss (sts.take i)) s:=by
 rw [Dz,h]
 unfold bu
 rw [Kb]; rfl
theorem kx {C:Nat} {rss:List (List Nat)} (hw:∀ r∈rss,r.length=C/\∀ x∈r,x<b):∀ {sts:List ce},(∀ s∈sts,s.1+2<=s.2.1/\s.2.1<=rss.length/\s.2.2<C)->(bu b rss sts).1.Perm rss:=by
 have key:∀ (sts:List ce) (z:List (List Nat)×Nat),z.1.Perm rss->(∀ s∈sts,s.1+2<=s.2.1/\s.2.1<=rss.length/\s.2.2<C)->(sts.foldl (nw b) z).1.Perm rss:=by
  intro sts
  induction sts with
  | nil=>exact λ z h _=>h
  | cons s r ih=>
   intro z hz hs
   refine ih (nw b z s) ?_ λ x hx=>hs x (DE _ hx)
   obtain ⟨h1,h2,h3⟩:=hs s (DF ..)
   refine Fi ?_ hz
   have e:z.1.take s.1++cf z.1 s.1 s.2.1++z.1.drop s.2.1=z.1:=lx (by lia)
   conv=>rhs; rw [<-e]
   refine ((D0 _).append (iZ λ r hr=>?_)).append (D0 _)
   obtain ⟨e1,e2⟩:=hw r (hz.mem_iff.mp (DO (DL hr)))
   have hcl:s.2.2<r.length:=by lia
   rw [C5,C4 hcl]
   exact e2 _ (Dl _)
 exact λ {sts} h=>key sts _ (D0 _) h
noncomputable abbrev Itm:=List (List Nat)×Nat
noncomputable def rW (b C:Nat) (ws:List Itm):Nat:=(ws.map λ z=>hT b (C - z.2) z.2 z.1).sum
noncomputable def mO (C:Nat) (ws:List Itm):Nat:=(ws.map λ z=>65 ^ (C+1 - z.2)).sum
def StkLow (ws:List Itm):Prop:=∀ (i:Nat) z,ws[i]? = some z->i<=64*z.2
theorem oE (b C:Nat) (ws vs:List Itm):rW b C (ws++vs)=rW b C ws+rW b C vs:=by unfold rW; rw [Dr,ER]
theorem oF (b C c:Nat) (xs:List (List Nat)):rW b C [(xs,c)]=hT b (C - c) c xs:=by unfold rW; simp
theorem ly (C:Nat) (ws vs:List Itm):mO C (ws++vs)=mO C ws+mO C vs:=by unfold mO; rw [Dr,ER]
theorem oG (C c:Nat) (xs:List (List Nat)):mO C [(xs,c)]=65 ^ (C+1 - c):=by unfold mO; simp
theorem rX (C:Nat) (ws:List Itm) (z:Itm):mO C ws<mO C (ws++[z]):=by
 obtain ⟨xs,c⟩:=z
 rw [ly,oG]
 have:0<65 ^ (C+1 - c):=Hm (by lia)
 lia
theorem mE (C c:Nat):∀ (ns:List Itm),(∀ z∈ns,z.2=c)->mO C ns=ns.length*65 ^ (C+1 - c)
 | [],_=>by simp [mO]
 | z::ns,h=>by
  have e:mO C (z::ns)=65 ^ (C+1 - z.2)+mO C ns:=by unfold mO; rw [Er,Es]
  rw [e,mE C c ns λ y hy=>h y (DE _ hy),h z (DF ..),DD,IA,IB]
theorem rY {C:Nat} {xs:List (List Nat)} {ws ns:List Itm} (hc:c<C) (h:∀ z∈ns,z.2=c+1) (hl:ns.length<=64):mO C (ws++ns)<mO C (ws++[(xs,c)]):=by
 rw [ly,ly,oG,mE C (c+1) ns h]
 have e:C+1 - c=(C+1 - (c+1))+1:=by lia
 rw [e,LO]
 have hp:0<65 ^ (C+1 - (c+1)):=Hm (by lia)
 have:=Nat.mul_le_mul_right (65 ^ (C+1 - (c+1))) hl
 lia
theorem StkLow.left {ws vs:List Itm} (h:StkLow (ws++vs)):StkLow ws:=λ i z e=>h i z (by rw [Do (aR e)]; exact e)
theorem StkLow.step {c:Nat} {xs:List (List Nat)} {ws ns:List Itm} (h:StkLow (ws++[(xs,c)])) (hn:∀ z∈ns,z.2=c+1) (hl:ns.length<=64):StkLow (ws++ns):=λ i z e=>by
 have h0:ws.length<=64*c:=h ws.length (xs,c) (by simp)
 by_cases hi:i<ws.length
 ·exact h i z (by rw [Do hi] at e ⊢; exact e)
 ·rw [Dy (by lia)] at e
  have:=aR e
  rw [hn z (Ek e)]
  lia
theorem StkLow.len {C:Nat} {ws:List Itm} (h:StkLow ws) (hc:∀ z∈ws,z.2<=C):ws.length<=64*C+1:=by
 cases hw:ws.length with
 | zero=>lia
 | succ n=>
  have hn:n<ws.length:=by lia
  have:=h n ws[n] (C4 hn)
  have:=hc _ (Dl hn)
  have:=Hc 64 this
  lia
structure Figs (fs os:List Nat):Prop where
 inc:fs.Pairwise (· < ·)
 mem:∀ k,k∈fs↔k∈os
theorem Figs.of {ms:List Int} {os:List Nat} (h1:ms.Pairwise (· < ·)) (h2:∀ k,k∈ms↔k∈cQ os):∃ fs,ms=cQ fs/\Figs fs os:=by
 have hn:∀ k∈ms,0<=k:=λ k hk=>by
  obtain ⟨o,_,rfl⟩:=DM.mp ((h2 k).mp hk)
  exact Int.natCast_nonneg _
 have e:ms=cQ (ms.map Mu):=by
  unfold cQ
  rw [EB]
  conv=>lhs; rw [<-JP ms]
  exact Ep λ k hk=>(He (hn k hk)).symm
 refine ⟨ms.map Mu,e,?_,λ k=>?_⟩
 ·rw [Fk]
  refine (GZ.mp h1).imp λ {a b} h=>?_
  have:=hn a h.1
  have:=hn b h.2.1
  have:=h.2.2
  lia
 ·constructor
  ·intro hk
   obtain ⟨z,hz,rfl⟩:=DM.mp hk
   obtain ⟨o,ho,e⟩:=DM.mp ((h2 z).mp hz)
   rw [<-e]; exact ho
  ·intro hk
   exact DM.mpr ⟨(k:Int),(h2 _).mpr (DM.mpr ⟨k,hk,rfl⟩),rfl⟩
theorem Figs.nodup {fs os:List Nat} (h:Figs fs os):fs.Nodup:=h.inc.imp λ {a b} e=>Dw e
theorem Figs.len {fs os:List Nat} (h:Figs fs os) (hb:∀ o∈os,o<64):fs.length<=64:=by
 have e:(C9 64).filter (λ g=>decide (g∈fs)) |>.Perm fs:=by
  rw [Ib (GT.filter _) h.nodup]
  intro a
  rw [Ee,DN,decide_eq_true_eq]
  exact ⟨λ z=>z.2,λ z=>⟨hb a ((h.mem a).mp z),z⟩⟩
 rw [<-e.length_eq]
 exact D9 (G0 _ _) (by simp)
theorem Figs.more {fs os:List Nat} (h:Figs fs os) (hb:∀ o∈os,o<64):(1<fs.length)↔bD (cnt os 64)=true:=by
 constructor
 ·intro hl
  apply FM
  intro hp
  match fs,h,hl with
  | x::y::r,h,_=>
   have e:=hE hb hp ((h.mem x).mp (by simp)) ((h.mem y).mp (by simp))
   have:=(Em.mp h.inc).1 y (by simp)
   lia
 ·intro hp
  apply FM
  intro hl
  have all:∃ x,∀ o∈os,o=x:=by
   match fs,h,hl with
   | [],h,_=>exact ⟨0,λ o ho=>by have:=(h.mem o).mpr ho; cases this⟩
   | [x],h,_=>exact ⟨x,λ o ho=>Dk.mp ((h.mem o).mpr ho)⟩
   | x::y::r,_,hl=>simp at hl
  obtain ⟨x,hx⟩:=all
  have e:os=DC os.length x:=List.eq_replicate_iff.mpr ⟨rfl,hx⟩
  cases os with
  | nil=>cases hp
  | cons o r=>
   have hx64:x<64:=by rw [<-hx o (by simp)]; exact hb o (by simp)
   rw [e,jY hx64] at hp
   cases hp
theorem uY {xs ys:List Nat} (h:xs.Perm ys):xs.sum=ys.sum:=by
 induction h with
 | nil=>rfl
 | cons x _ ih=>rw [Es,Es,ih]
 | swap x y l=>rw [Es,Es,Es,Es]; lia
 | trans _ _ a b=>exact a.trans b
theorem Figs.sum {fs os:List Nat} (h:Figs fs os) (hb:∀ o∈os,o<64) (F:Nat->Nat) (h0:∀ g,¬ g∈os->F g=0):(fs.map F).sum=((C9 64).map F).sum:=by
 have e:((C9 64).filter (λ g=>decide (g∈fs))).Perm fs:=by
  rw [Ib (GT.filter _) h.nodup]
  intro a
  rw [Ee,DN,decide_eq_true_eq]
  exact ⟨λ z=>z.2,λ z=>⟨hb a ((h.mem a).mp z),z⟩⟩
 rw [<-uY (e.map F),bV]
 intro g _ hg
 exact h0 g λ z=>by rw [decide_eq_false_iff_not] at hg; exact hg ((h.mem g).mpr z)
noncomputable def iL (c:Nat) (ys:List (List Nat)) (fs:List Nat):List Itm:=fs.map λ g=>(ys.filter λ r=>decide (r.getD c 0=g),c+1)
theorem xQ {C:Nat} {xs:List (List Nat)} {fs:List Nat} (hf:Figs fs (aE c xs)) (hb:∀ r∈xs,r.getD c 0<b) (hb64:b<=64) (hc:c<C) (hl:1<xs.length):hP b c xs+rW b C (iL c (hH b c xs) fs)=hT b (C - c) c xs:=by
 have h64:∀ o∈aE c xs,o<64:=λ o ho=>Ds (cn hb o ho) hb64
 have e:C - c=(C - (c+1))+1:=by lia
 rw [e,jF (by lia)]
 refine congrArg (hP b c xs + ·) ?_
 have e1:rW b C (iL c (hH b c xs) fs)=(fs.map λ g=>hT b (C - (c+1)) (c+1) ((hH b c xs).filter λ r=>decide (r.getD c 0=g))).sum:=by
  unfold rW iL
  rw [EB]; rfl
 rw [e1]
 refine hf.sum h64 _ λ g hg=>gL ?_ _
 have hp:(hH b c xs).Perm xs:=by
  unfold hH
  split
  ·exact iZ hb
  ·exact D0 _
 have:(hH b c xs).filter (λ r=>decide (r.getD c 0=g))=[]:=by
  rw [Fx]
  intro r hr
  simp only [decide_eq_true_eq]
  intro z
  exact hg (z▸DM.mpr ⟨r,hp.mem_iff.mp hr,rfl⟩)
 rw [this]
 exact Du _
theorem rZ {xs:List (List Nat)} (h:∀ r∈xs,r.getD c 0<b):(hH b c xs).Perm xs:=by
 unfold hH
 split
 ·exact iZ h
 ·exact D0 _
theorem mF (os:List Nat) (v k:Nat):ai os v=(os.take k).countP (λ x=>decide (x<v))+(os.drop k).countP λ x=>decide (x<v):=by
 unfold ai
 conv=>lhs; rw [<-DP k os]
 rw [List.countP_append]
theorem mG {os:List Nat} (h:os.Pairwise (·<=·)) {p:Nat} (hp:p<os.length):inP os os[p] p=true:=by
 have h1:ai os os[p]<=p:=by
  have:=mF os os[p] p
  have z:(os.drop p).countP (λ x=>decide (x<os[p]))=0:=by
   rw [Ft]
   intro x hx
   obtain ⟨i,hi,rfl⟩:=Eh hx
   rw [DU] at hi
   rw [Gp]
   have:=DK.mp h
   by_cases g:i=0
   ·subst g; simp
   ·have:=this p (p+i) hp (by lia) (by lia)
    simpa using this
  rw [this,z,FS]
  exact D9 Jc (by rw [Df]; lia)
 have h2:p<ai os (os[p]+1):=by
  have:=mF os (os[p]+1) (p+1)
  have z:(os.take (p+1)).countP (λ x=>decide (x<os[p]+1))=(os.take (p+1)).length:=by
   rw [GY]
   intro x hx
   obtain ⟨i,hi,rfl⟩:=Eh hx
   rw [Df] at hi
   rw [Gq]
   by_cases g:i=p
   ·subst g; simp
   ·have:=(DK.mp h) i p (by lia) hp (by lia)
    simp only [decide_eq_true_eq]; lia
  rw [z,Df] at this
  lia
 exact gG h1 h2
theorem pK {os:List Nat} (hb:∀ o∈os,o<b) (h:os.Pairwise (·<=·)):hsO os b=C9 os.length/\hpO os b=0:=by
 have hq:=jE hb
 have hn:(hw0 (qsO os) b).step.1=none:=by
  rcases dG (ot (qsO os) b) hq with ⟨_,e,_⟩ | ⟨p,z,h1,h2,h3,h4,h5,_⟩ | ⟨p,z,h1,_⟩
  ·exact e
  ·exfalso
   have hl:(hw0 (qsO os) b).ps.length=os.length:=by show ((qsO os).map some).length=_; rw [C6,eZ]
   have hp:p<os.length:=by lia
   have e:(hw0 (qsO os) b).ps.getD p none=some (os.getD p 0,p):=by
    show ((qsO os).map some).getD p none=_
    unfold qsO
    rw [C5,De,De,Eg hp]; rfl
   rw [e] at h4
   cases h4
   have:os.getD p 0=os[p]:=by rw [C5,C4 hp]; rfl
   rw [rS] at h5
   have h5:inP os (os.getD p 0) p=false:=h5
   rw [this,mG h hp] at h5
   cases h5
  ·cases h1
 have E:EndW (hw0 (qsO os) b) (hw0 (qsO os) b).step.2:=⟨0,hn,λ j hj=>absurd hj (EF _),rfl⟩
 have eS:=lv E
 have st:(hw0 (qsO os) b).step.2.ps=(hw0 (qsO os) b).ps/\(hw0 (qsO os) b).step.2.pt=(hw0 (qsO os) b).pt:=by
  rcases dG (ot (qsO os) b) hq with ⟨_,_,e1,_,e2,_⟩ | ⟨p,z,h1,h2,_⟩ | ⟨p,z,h1,_⟩
  ·exact ⟨e1,e2⟩
  ·rw [hn] at h2; cases h2
  ·cases h1
 rw [eS] at st
 constructor
 ·unfold hsO
  rw [st.1]
  have:fm (hw0 (qsO os) b).ps=qsO os:=by
   show fm ((qsO os).map some)=_
   unfold fm
   rw [Hs]
   exact JA
  rw [this]
  unfold qsO
  rw [EB]
  exact JP _
 ·unfold hpO; rw [st.2]; rfl
theorem pL {xs:List (List Nat)} (hb:∀ r∈xs,r.getD c 0<b) (h:(aE c xs).Pairwise (·<=·)):hsR b c xs=xs/\hpO (aE c xs) b=0:=by
 obtain ⟨e1,e2⟩:=pK (cn hb) h
 refine ⟨?_,e2⟩
 unfold hsR
 rw [e1,bH]
 exact rgD xs []
theorem mH {b:Nat}:∀ (n c:Nat) {xs:List (List Nat)},(∀ r∈xs,r.length=c+n/\∀ x∈r,x<b)->xs.Pairwise (λ r s=>¬ lxt (s.drop c) (r.drop c)=true)->hT b n c xs=0
 | 0,_,_,_,_=>rfl
 | n+1,c,xs,hw,h=>by
  by_cases hl:xs.length<=1
  ·exact gL hl _
  have hc:∀ r∈xs,c<r.length:=λ r hr=>by rw [(hw r hr).1]; lia
  have hb:∀ r∈xs,r.getD c 0<b:=λ r hr=>by
   rw [C5,C4 (hc r hr)]
   exact (hw r hr).2 _ (Dl _)
  have dr:∀ r∈xs,r.drop c=r.getD c 0::r.drop (c+1):=λ r hr=>by
   rw [EJ (hc r hr),C5,C4 (hc r hr)]; rfl
  have hm:=GZ.mp h
  have hs:(aE c xs).Pairwise (·<=·):=by
   unfold aE
   rw [Fk]
   refine hm.imp λ {r s} ⟨h1,h2,h3⟩=>?_
   rw [dr r h1,dr s h2] at h3
   apply FM
   intro g
   exact h3 (by rw [dc,if_neg (by lia),decide_eq_true (by lia)])
  obtain ⟨e1,e2⟩:=pL hb hs
  rw [jF hl]
  have eH:hH b c xs=xs:=by unfold hH; split; exact e1; rfl
  have eP:hP b c xs=0:=by unfold hP; split; exact e2; rfl
  rw [eH,eP,EG]
  have:∀ g∈C9 64,hT b n (c+1) (xs.filter λ r=>decide (r.getD c 0=g))=0:=λ g _=>by
   refine mH n (c+1) (λ r hr=>?_) ?_
   ·have:=hw r (Ee.mp hr).1
    exact ⟨by lia,this.2⟩
   ·have hm2:=GZ.mp (h.filter λ r=>decide (r.getD c 0=g))
    refine hm2.imp λ {r s} ⟨h1,h2,h3⟩ z=>h3 ?_
    obtain ⟨m1,g1⟩:=Ee.mp h1
    obtain ⟨m2,g2⟩:=Ee.mp h2
    rw [dr r m1,dr s m2,of_decide_eq_true g1,of_decide_eq_true g2,dc,if_pos rfl]
    exact z
  exact (bV _ (λ _=>false) _ λ g hg _=>this g hg).symm.trans (by rw [Fx.mpr (by simp)]; rfl)
theorem z6 {qs:List (Nat×Nat)} {b:Nat} (hq:∀ q∈qs,q.1<b):∀ k,(HW.it k (hw0 qs b)).pt+(HW.it k (hw0 qs b)).mis (qs.map Dc)<=(hw0 qs b).mis (qs.map Dc)
 | 0=>by show 0+(hw0 qs b).mis (qs.map Dc)<=_; lia
 | k+1=>by
  have ih:=z6 hq k
  show (HW.it k (hw0 qs b)).step.2.pt+(HW.it k (hw0 qs b)).step.2.mis (qs.map Dc)<=_
  rcases dG (nr hq k) hq with ⟨h1,h2,h3,h4,h5,h6,h7,h8,_⟩ | ⟨p,z,h1,h2,h3,h4,h5,h6,h7,h8,h9,h10⟩ | ⟨p,z,h1,h2,h3,h4,h5,h6,h7,h8,_⟩
  ·lia
  ·lia
  ·lia
theorem z7 {os:List Nat} (hb:∀ o∈os,o<b):hpO os b<=os.length:=by
 have hq:=jE hb
 obtain ⟨k,_,_,e⟩:=ls (vM hq)
 have h1:=z6 hq (k+1)
 have h1:(HW.it k (hw0 (qsO os) b)).step.2.pt+_<=_:=h1
 rw [<-e] at h1
 have h2:(hw0 (qsO os) b).mis ((qsO os).map Dc)<=os.length:=by
  unfold HW.mis
  have:=rH ((qsO os).map Dc) 0 (hw0 (qsO os) b).ps
  have e2:(hw0 (qsO os) b).ps.length=os.length:=by show ((qsO os).map some).length=_; rw [C6,eZ]
  have e3:(hw0 (qsO os) b).hd.toList.length=0:=rfl
  lia
 unfold hpO
 lia
theorem pM (c g:Nat) (ys:List (List Nat)):(ys.filter λ r=>decide (r.getD c 0=g)).length=(aE c ys).count g:=by
 unfold aE KC
 rw [List.countP_map,Hj]
 congr 1
theorem mI (c:Nat) (ys:List (List Nat)):∀ N,((C9 N).map λ g=>(ys.filter λ r=>decide (r.getD c 0=g)).length).sum=ai (aE c ys) N
 | 0=>by
  unfold ai
  symm
  rw [List.range_zero]
  show _=0
  rw [Ft]
  intro x _; simp
 | N+1=>by
  rw [List.range_succ,Dr,ER,mI c ys N,aM,<-pM]
  simp
theorem vO {α:Type} (f g:α->Nat):∀ (xs:List α),(∀ x∈xs,f x<=g x)->(xs.map f).sum<=(xs.map g).sum
 | [],_=>C8 _
 | x::xs,h=>by
  rw [Er,Er,Es,Es]
  have:=h x (DF ..)
  have:=vO f g xs λ y hy=>h y (DE _ hy)
  lia
theorem r9 {α:Type} (n:Nat) (f:α->Nat):∀ (xs:List α),(xs.map λ x=>n*f x).sum=n*(xs.map f).sum
 | []=>rfl
 | x::xs=>by rw [Er,Er,Es,Es,r9 n f xs,Mb]
theorem Aa {b:Nat}:∀ (n c:Nat) {xs:List (List Nat)},(∀ r∈xs,r.length=c+n/\∀ x∈r,x<b)->hT b n c xs<=n*xs.length
 | 0,_,_,_=>Du _
 | n+1,c,xs,hw=>by
  by_cases hl:xs.length<=1
  ·rw [gL hl]; exact Du _
  have hb:∀ r∈xs,r.getD c 0<b:=λ r hr=>by
   have hc:c<r.length:=by rw [(hw r hr).1]; lia
   rw [C5,C4 hc]
   exact (hw r hr).2 _ (Dl _)
  rw [jF hl]
  have h1:hP b c xs<=xs.length:=by
   unfold hP
   split
   ·have:=z7 (cn hb); rw [bH] at this; exact this
   ·exact Du _
  have hp:=rZ hb
  have h2:=vO (λ g=>hT b n (c+1) ((hH b c xs).filter λ r=>decide (r.getD c 0=g))) (λ g=>n*((hH b c xs).filter λ r=>decide (r.getD c 0=g)).length) (C9 64) λ g _=>Aa n (c+1) λ r hr=>by
   have:=hw r (hp.mem_iff.mp (Ee.mp hr).1)
   exact ⟨by lia,this.2⟩
  rw [r9,mI] at h2
  have h3:=c9 (aE c (hH b c xs)) 64
  rw [bH,hp.length_eq] at h3
  have h4:=Hc n h3
  rw [IA]
  lia
end L2
open L2.HW renaming it→MZ
set_option maxHeartbeats 0
namespace Fs
open PySem PySem.Spec PyProof.Rows L2
local macro_rules
 | `(tactic| walk_at "s")=>`(tactic| exact ⟨rfl,rfl,rfl,by decide +kernel,rfl,by decide +kernel,by decide +kernel⟩)
local macro_rules
 | `(tactic| nofun)=>do
  let q ←("B4 B5 Bl B6 Bm Bn CC Bo C1 B7 CF B8 Bp C2 CG CH CI AC Cd Bx Ce C3 B9 Cf By AE Bz CK Bq Ca Br Cb Cc CD kN CN CO BA Cj AI Cp BI BH AK AG Cm CS BF zH AF Cq BP yu BQ BR Cl BJ BM BN CQ eU yx".splitOn " ").foldrM (fun n (a:Lean.TSyntax `tactic)=>`(tactic| first | (with_reducible refine $(Lean.mkIdent (Mw n)) ?_) | $a:tactic)) (←`(tactic| fail))
  `(tactic| (repeat (first | $q:tactic | (with_reducible refine xJ ?_; dsimp only [EU]) | (with_reducible refine uv ?_; dsimp only [EU]) | ((with_reducible show Az _ _ _ _); refine ⟨_,rfl,?_⟩) | (with_reducible refine CJ ?c ?_; (case c=>first | (show (0:Int)<_; omega) | exact Bs (by omega) (by omega) | exact CL (by omega) (by omega) | exact Bt (by omega) (by omega) (by omega) | exact Bu (by omega) (by omega) | exact Bv (by omega) (by omega) | exact CM (by decide) (by decide) (by decide))) | (with_reducible refine zr (by first | assumption | exact ab) ?_; refine ⟨_,rfl,?_⟩) | (with_reducible refine w6 (by first | assumption | exact ab) ?_; refine ⟨_,rfl,?_⟩) | (with_reducible refine xa (by first | assumption | exact ab) ?_; refine ⟨_,rfl,?_⟩; dsimp only [Int.reduceToNat,EU]) | (with_reducible refine xo ?_; dsimp only [EU]) | ((with_reducible show AY _ _ _ _ _ _); refine ⟨_,rfl,?_⟩))))
def top (i:Nat):Stmt:=Ej.main.body.getD i (.Pass ⟨0,0,0,0⟩)
noncomputable abbrev lz:Stmt:=top 1
noncomputable abbrev lA:Stmt:=top 2
noncomputable abbrev dj:Stmt:=top 3
noncomputable abbrev fN:Stmt:=top 4
noncomputable abbrev cq:Stmt:=top 5
noncomputable abbrev ie:Stmt:=top 7
noncomputable abbrev e7:Stmt:=top 8
noncomputable abbrev ig:Stmt:=top 10
noncomputable abbrev bI:Stmt:=dI (top 12) 0
noncomputable abbrev bW:Stmt:=dI (top 12) 1
noncomputable abbrev cr:Stmt:=dI (top 12) 2
noncomputable abbrev cS:Stmt:=dI (top 12) 3
noncomputable abbrev bv:Stmt:=dI (top 12) 4
noncomputable abbrev bJ:Stmt:=dI (top 12) 5
noncomputable abbrev dk:Stmt:=dI (top 12) 6
noncomputable abbrev fc:Stmt:=dI (top 12) 7
noncomputable abbrev cT:Stmt:=dI (top 12) 8
noncomputable abbrev lB:Stmt:=top 13
noncomputable abbrev dQ:Stmt:=top 14
noncomputable abbrev se:Stmt:=top 16
noncomputable abbrev sf:Stmt:=top 17
noncomputable abbrev si:Stmt:=top 18
noncomputable abbrev sj:Stmt:=top 19
noncomputable abbrev sk:Stmt:=top 20
noncomputable abbrev dR:Stmt:=top 21
noncomputable abbrev sn:Stmt:=top 22
noncomputable abbrev fO:Stmt:=top 23
noncomputable abbrev nz:Stmt:=top 24
noncomputable abbrev ii:Stmt:=top 25
noncomputable abbrev sq:Stmt:=top 26
noncomputable abbrev pN:Stmt:=top 27
set_option genSizeOfSpec false in
set_option genInjectivity false in
structure Ad where
 lN:Addr
 lK:FuncData
 lM:Addr
 lJ:FuncData
 dw:Addr
 dq:FuncData
 fY:Addr
 fW:FuncData
 cx:Addr
 cv:FuncData
 iA:Addr
 iu:FuncData
 fv:Addr
 ft:FuncData
 iz:Addr
 ir:FuncData
 bN:Addr
 bL:FuncData
 bZ:Addr
 bY:FuncData
 cw:Addr
 cu:FuncData
 cZ:Addr
 cX:FuncData
 bA:Addr
 bz:FuncData
 bO:Addr
 bM:FuncData
 dv:Addr
 dl:FuncData
 fu:Addr
 fq:FuncData
 cY:Addr
 cW:FuncData
 lO:Addr
 lL:FuncData
 dZ:Addr
 dX:FuncData
 tT:Addr
 tL:FuncData
 tN:Addr
 tE:FuncData
 tO:Addr
 tF:FuncData
 tM:Addr
 sZ:FuncData
 tR:Addr
 tK:FuncData
 ee:Addr
 dY:FuncData
 tP:Addr
 tG:FuncData
 fZ:Addr
 fX:FuncData
 nH:Addr
 nG:FuncData
 iw:Addr
 iq:FuncData
 tQ:Addr
 tH:FuncData
 yo:Addr
 yn:FuncData
 aa:Addr
structure Tx (K:C7) (mg:Str->Option Value) (t:Ad):Prop where
 lP:mg "counts" = some (.ref t.lN)
 i6:Fun K "counts" "counts" lz t.lN t.lK
 lH:Binds K t.lK ["row","base"] []
 ja:mg "begins" = some (.ref t.lM)
 gU:Fun K "begins" "begins" lA t.lM t.lJ
 i7:Binds K t.lJ ["counts"] []
 j8:mg "many_columns" = some (.ref t.dw)
 fE:Fun K "many_columns" "many_columns" dj t.dw t.dq
 j7:Binds K t.dq ["rows"] []
 nI:mg "is_parted" = some (.ref t.fY)
 jP:Fun K "is_parted" "is_parted" fN t.fY t.fW
 nF:Binds K t.fW ["often"] []
 iB:mg "order_by_figure" = some (.ref t.cx)
 dH:Fun K "order_by_figure" "order_by_figure" cq t.cx t.cv
 ip:Binds K t.cv ["row","base"] []
 pT:mg "parts_of" = some (.ref t.iA)
 kB:Fun K "parts_of" "parts_of" ie t.iA t.iu
 pR:Binds K t.iu ["first","often","column"] []
 iI:mg "from_first" = some (.ref t.fv)
 fg:Fun K "from_first" "from_first" e7 t.fv t.ft
 iH:Binds K t.ft ["rows","base"] []
 kD:mg "own_copy" = some (.ref t.iz)
 il:Fun K "own_copy" "own_copy" ig t.iz t.ir
 kC:Binds K t.ir ["thing"] []
 fS:Mk K t.aa t.bN
 fP:Fun K "__init__" "HeapWalk.__init__" bI t.bN t.bL
 fU:Binds K t.bL ["self","row","base"] []
 df:Meth K t.aa "mark_of" t.bZ
 gT:Fun K "mark_of" "HeapWalk.mark_of" bW t.bZ t.bY
 dg:Binds K t.bY ["self","figure"] []
 im:Meth K t.aa "stands" t.cw
 ik:Fun K "stands" "HeapWalk.stands" cr t.cw t.cu
 io:Binds K t.cu ["self","figure","place"] []
 jQ:Meth K t.aa "step" t.cZ
 jO:Fun K "step" "HeapWalk.step" cS t.cZ t.cX
 jR:Binds K t.cX ["self"] []
 fj:Meth K t.aa "take_first" t.bA
 ff:Fun K "take_first" "HeapWalk.take_first" bv t.bA t.bz
 fo:Binds K t.bz ["self"] []
 fT:Meth K t.aa "put_held" t.bO
 fQ:Fun K "put_held" "HeapWalk.put_held" bJ t.bO t.bM
 fV:Binds K t.bM ["self"] []
 fF:Meth K t.aa "row" t.dv
 j6:Fun K "row" "HeapWalk.row" dk t.dv t.dl
 fG:Binds K t.dl ["self"] []
 sX:Meth K t.aa "hand" t.fu
 sU:Fun K "hand" "HeapWalk.hand" fc t.fu t.fq
 sY:Binds K t.fq ["self"] []
 fh:Meth K t.aa "puts" t.cY
 jN:Fun K "puts" "HeapWalk.puts" cT t.cY t.cW
 fk:Binds K t.cW ["self"] []
 oO:mg "walked" = some (.ref t.lO)
 lG:Fun K "walked" "walked" lB t.lO t.lL
 oN:Binds K t.lL ["row","base"] []
 gY:mg "heap_sorted" = some (.ref t.dZ)
 dW:Fun K "heap_sorted" "heap_sorted" dQ t.dZ t.dX
 gX:Binds K t.dX ["rows","base"] []
 Ay:mg "_law_tape" = some (.ref t.tT)
 vX:Fun K "_law_tape" "_law_tape" se t.tT t.tL
 At:Binds K t.tL ["_law_script","_law_k"] []
 c5:mg "_law_draw" = some (.ref t.tN)
 cF:Fun K "_law_draw" "_law_draw" sf t.tN t.tE
 cV:Binds K t.tE ["_law_tape_here","_law_many_here"] []
 Av:mg "_law_many" = some (.ref t.tO)
 vU:Fun K "_law_many" "_law_many" si t.tO t.tF
 Aq:Binds K t.tF ["_law_tape_here","_law_k"] []
 Au:mg "_law_base" = some (.ref t.tM)
 vT:Fun K "_law_base" "_law_base" sj t.tM t.sZ
 Ap:Binds K t.sZ ["_law_tape_here"] []
 Ax:mg "_law_rows" = some (.ref t.tR)
 vW:Fun K "_law_rows" "_law_rows" sk t.tR t.tK
 As:Binds K t.tK ["_law_tape_here","_law_many_here","_law_base_here"] []
 lQ:mg "_law_part_begins" = some (.ref t.ee)
 gW:Fun K "_law_part_begins" "_law_part_begins" dR t.ee t.dY
 lI:Binds K t.dY ["_law_pairs","_law_base_here"] []
 vZ:mg "_law_mark" = some (.ref t.tP)
 sV:Fun K "_law_mark" "_law_mark" sn t.tP t.tG
 vY:Binds K t.tG ["_law_state_here","_law_figure"] []
 jT:mg "_law_next_move" = some (.ref t.fZ)
 fR:Fun K "_law_next_move" "_law_next_move" fO t.fZ t.fX
 jS:Binds K t.fX ["_law_state_here"] []
 yp:mg "_law_state" = some (.ref t.nH)
 sW:Fun K "_law_state" "_law_state" nz t.nH t.nG
 ym:Binds K t.nG ["_law_pairs","_law_base_here"] []
 pS:mg "_law_walked" = some (.ref t.iw)
 kA:Fun K "_law_walked" "_law_walked" ii t.iw t.iq
 pQ:Binds K t.iq ["_law_rows_here","_law_column","_law_base_here"] []
 Aw:mg "_law_puts" = some (.ref t.tQ)
 vV:Fun K "_law_puts" "_law_puts" sq t.tQ t.tH
 Ar:Binds K t.tH ["_law_rows_here","_law_base_here","_law_columns"] []
 C0:mg "law" = some (.ref t.yo)
 BW:Fun K "law" "law" pN t.yo t.yn
 CZ:Binds K t.yn ["_law_script"] []
 tU:mg "abs" = none
 cy:mg "enumerate" = none
 pU:mg "int" = none
 bR:mg "isinstance" = none
 cA:mg "len" = none
 gZ:mg "list" = none
 vg:mg "min" = none
 c6:mg "range" = none
 vh:mg "set" = none
 g5:mg "sorted" = none
 nK:mg "str" = none
 dy:mg "tuple" = none
 tV:mg "zip" = none
 nJ:mg "HeapWalk" = some (.ref t.aa)
 aj:Cls K t.aa
 aA:NoAttr K t.aa "pairs"
 aH:NoAttr K t.aa "held"
 aJ:NoAttr K t.aa "marks"
 aX:NoAttr K t.aa "ends"
 aI:NoAttr K t.aa "many_puts"
theorem vP:bootBuiltins "abs" = some (.builtin "abs"):=by decide +kernel
theorem sr:bootBuiltins "int" = some (.type "int"):=by decide +kernel
theorem dS:bootBuiltins "isinstance" = some (.builtin "isinstance"):=by decide +kernel
theorem bx:bootBuiltins "len" = some (.builtin "len"):=by decide +kernel
theorem jG:bootBuiltins "list" = some (.type "list"):=by decide +kernel
theorem Ac:bootBuiltins "min" = some (.builtin "min"):=by decide +kernel
theorem su:bootBuiltins "sorted" = some (.builtin "sorted"):=by decide +kernel
theorem oH:bootBuiltins "str" = some (.type "str"):=by decide +kernel
theorem dU:bootBuiltins "tuple" = some (.type "tuple"):=by decide +kernel
theorem sc_counts:FnScope ["row","base","often","figure"] ["row","base"] (ao lz):=by walk_at "s"
theorem sc_begins:FnScope ["counts","lesser","so_far","many"] ["counts"] (ao lA):=by walk_at "s"
theorem jH:FnScope ["rows"] ["rows"] (ao dj):=by walk_at "s"
theorem mJ:FnScope ["often"] ["often"] (ao fN):=by walk_at "s"
theorem sc_order_by_figure:FnScope ["row","base","marks","order","place","figure"] ["row","base"] (ao cq):=by walk_at "s"
theorem nA:FnScope ["first","often","column"] ["first","often","column"] (ao ie):=by walk_at "s"
theorem sc_from_first:FnScope ["rows","base","order","steps","columns","waiting","first","last","column","stretch","row","often"] ["rows","base"] (ao e7):=by walk_at "s"
theorem sc_own_copy:FnScope ["thing","parts","firsts","part","at"] ["thing"] (ao ig):=by walk_at "s"
theorem sc_HeapWalk___init__:FnScope ["self","row","base","often"] ["self","row","base"] (ao bI):=by walk_at "s"
theorem sc_HeapWalk_mark_of:FnScope ["self","figure","place"] ["self","figure"] (ao bW):=by walk_at "s"
theorem sc_HeapWalk_stands:FnScope ["self","figure","place","pair"] ["self","figure","place"] (ao cr):=by walk_at "s"
theorem iM:FnScope ["self"] ["self"] (ao cS):=by walk_at "s"
theorem sc_HeapWalk_take_first:FnScope ["self","figure","place"] ["self"] (ao bv):=by walk_at "s"
theorem sc_HeapWalk_put_held:FnScope ["self","figure","place","there"] ["self"] (ao bJ):=by walk_at "s"
theorem jI:FnScope ["self"] ["self"] (ao dk):=by walk_at "s"
theorem iN:FnScope ["self"] ["self"] (ao cT):=by walk_at "s"
theorem sc_walked:FnScope ["row","base","walk"] ["row","base"] (ao lB):=by walk_at "s"
theorem sc_heap_sorted:FnScope ["rows","base","rising","all_puts","first","last","column","stretch","walk"] ["rows","base"] (ao dQ):=by walk_at "s"
theorem sc_tape:FnScope ["_law_script","_law_k","_law_cell","_law_digits"] ["_law_script","_law_k"] (ao se):=by walk_at "s"
theorem sc_draw:FnScope ["_law_tape_here","_law_many_here","_law_found","_law_once"] ["_law_tape_here","_law_many_here"] (ao sf):=by walk_at "s"
theorem xR:FnScope ["_law_tape_here","_law_k"] ["_law_tape_here","_law_k"] (ao si):=by walk_at "s"
theorem xS:FnScope ["_law_tape_here"] ["_law_tape_here"] (ao sj):=by walk_at "s"
theorem sc_rows:FnScope ["_law_tape_here","_law_many_here","_law_base_here","_law_columns","_law_top","_law_found","_law_k","_law_row","_law_way","_law_other","_law_at"] ["_law_tape_here","_law_many_here","_law_base_here"] (ao sk):=by walk_at "s"
theorem sc_part_begins:FnScope ["_law_pairs","_law_base_here","_law_found","_law_begin","_law_figure","_law_many_here"] ["_law_pairs","_law_base_here"] (ao dR):=by walk_at "s"
theorem sc_mark:FnScope ["_law_state_here","_law_figure","_law_places","_law_held","_law_marks","_law_parts","_law_laid","_law_at"] ["_law_state_here","_law_figure"] (ao sn):=by walk_at "s"
theorem sc_next_move:FnScope ["_law_state_here","_law_places","_law_held","_law_marks","_law_parts","_law_laid","_law_figure","_law_at","_law_there"] ["_law_state_here"] (ao fO):=by walk_at "s"
theorem sc_state:FnScope ["_law_pairs","_law_base_here","_law_parts"] ["_law_pairs","_law_base_here"] (ao nz):=by walk_at "s"
theorem sc_l_walked:FnScope ["_law_rows_here","_law_column","_law_base_here","_law_state_here","_law_move"] ["_law_rows_here","_law_column","_law_base_here"] (ao ii):=by walk_at "s"
theorem sc_puts:FnScope ["_law_rows_here","_law_base_here","_law_columns","_law_waiting","_law_found","_law_some","_law_column","_law_figures_there","_law_laid","_law_figure"] ["_law_rows_here","_law_base_here","_law_columns"] (ao sq):=by walk_at "s"
theorem sc_law:FnScope ["_law_script","_law_k","_law_tape_here","_law_base_here","_law_rows_here","_law_columns","_law_due","_law_mixed","_law_handed","_law_kept","_law_found"] ["_law_script"] (ao pN):=by walk_at "s"
section
variable {P:Program} {w:World} {K:C7} {mg:Str->Option Value} {base:Heap} {t:Ad}
theorem bK (T:Tx K mg t):FnOk P w K mg base CX0 1 t.tN t.tE ["_law_tape_here","_law_many_here"] xr:=by
 refine T.cF.okQ sc_draw (λ vs H Q E h=>?_) (λ cdv A outer s H vs Q E hr h=>?_)
 ·obtain ⟨p,m,rfl,_⟩:=h
  rfl
 ·obtain ⟨p,m,rfl,⟨a,b,hp,ha,hb⟩,hm,hm2,k⟩:=h
  have fin:∀ (x:Int) H',St2 p H H'->Q (.int (x % m)) H':=λ x H' S=>by
   have:=k (x % m).toNat H' (by rw [He (GD _ (by lia))]; exact Int.emod_lt_of_pos _ hm) S
   rw [He (GD _ (by lia))] at this
   exact this
  refine ⟨_,(ac (di (aB vx (aC (bg (K:=K)) (qv 0) ag) ag (aG _)) (ac (au (i:=2) sc_draw.nd rfl (Di rfl) (aU kQ (aC (bg (K:=K)) (qv 0) ag) (qv 1)))
   (ac (cJ (aU xm (aC (bg (K:=K)) (qv 0) ag) (qv 1)) (qv 0) ag)
   (am (aD (qv 2))))) bP)
   (ac (cJ (aU kQ (aU cK (aU pc (aC (bg (K:=K)) (qv 0) ag) ag) ag) ag) (qv 0) ag)
   (ac (au (i:=3) sc_draw.nd rfl (Di rfl) (aU kQ (aU pc (aC (bg (K:=K)) (qv 0) ag) (aU cK (aU kQ (aC (bg (K:=K)) (qv 0) ag) ag) ag)) ag))
   (am (aD (aU kQ (aU kQ (aU pc (qv 3) (aU cK (aU kQ (qv 3) ag) ag)) ag) (qv 1))))))),?_⟩
  rw [show L2.start ["_law_tape_here","_law_many_here","_law_found","_law_once"] [MU p,MS m]=[some (MU p),some (MS m),none,none] from rfl]
  nofun
  refine aY (λ h0=>?_) (λ h0=>?_)
  ·nofun
   exact fin _ _ (Tp2.mk (Int.ediv_nonneg ha (by lia)) hb)
  ·nofun
   exact fin _ _ (Tp2.mk ha (GD _ (by lia)))
theorem xT (T:Tx K mg t):FnOk P w K mg base CX0 1 t.tT t.tL ["_law_script","_law_k"] (xq K):=by
 refine T.vX.okQ sc_tape (λ vs H Q E h=>?_) (λ cdv A outer s H vs Q E hr h=>?_)
 ·obtain ⟨a,ns,k,rfl,_⟩:=h
  rfl
 ·obtain ⟨a,ns,k,rfl,hS,hk,q⟩:=h
  refine ⟨_,(ac (au (i:=2) sc_tape.nd rfl (Di rfl) ag)
   (ac (di (aB vw (qv 1) (ay (bt (K:=K)) (by rfl) T.cA bx (al (qv 0) ad)) (aG _)) (am (au (i:=2) sc_tape.nd rfl (Di rfl) (aC (bg (K:=K)) (qv 0) (qv 1)))) bP)
   (ac (au (i:=3) sc_tape.nd rfl (Di rfl) (aU pc (ay vy (by rfl) T.tU vP (al (qv 2) ad)) (aV qM (by rfl) T.pU sr (al (fJ CP (ay vy (by rfl) T.tU vP (al (qv 2) ad)) (aU BB ag ag) (aG _)) ad))))
   (am (aD (bC (al (qv 3) (al (aU kQ (aU pc (aU kQ (aU cK (aU cK (qv 2) (aU pc ag (qv 1))) ag) ag) ag) ag) ad)))))))),?_⟩
  rw [show L2.start ["_law_script","_law_k","_law_cell","_law_digits"] [MU a,MS k]=[some (MU a),some (MS k),none,none] from rfl]
  nofun
  refine bb hS ?_
  nofun
  refine aY (λ h0=>?_) (λ h0=>?_)
  ·nofun
   have hlt:k.toNat<ns.length:=by rw [C6] at h0; lia
   have hget:atI (ns.map MS) k=some (MS ns[k.toNat]):=by
    have e:k=(k.toNat:Int):=by lia
    have:=aO (xs:=ns.map MS) (j:=k.toNat) (v:=MS ns[k.toNat]) (by simp [hlt])
    rw [<-e] at this; exact this
   refine br hS hget ?_
   generalize ns[k.toNat]=cell
   nofun
   exact ⟨aL (by simp),λ p hp=>q p _ hp ((MW H).new hp) ⟨_,_,ab,KR (by split<;>lia) (by (repeat' split)<;>lia),GD _ (by lia)⟩⟩
  ·nofun
   exact ⟨aL (by simp),λ p hp=>q p _ hp ((MW H).new hp) ⟨_,_,ab,KR (by split<;>lia) (by (repeat' split)<;>lia),GD _ (by lia)⟩⟩
def uZ:Sp:=λ vs H Q _=>∃ (a:Addr) (os:List Nat) (b:Nat),vs=[.ref a,.int b]/\H a=some (.lst (NV os))/\(∀ o∈os,o<b)/\os.length<=200/\b<=64/\∀ (l:Addr) H',H l=none->Same H H'->H' l=some (.lst (NV (cnt os b)))->Q (.ref l) H'
theorem jJ (T:Tx K mg t):FnOk P w K mg base CX0 1 t.lN t.lK ["row","base"] uZ:=by
 refine T.i6.okQ sc_counts (λ vs H Q E h=>?_) (λ cdv A outer s H vs Q E hr h=>?_)
 ·obtain ⟨a,os,b,rfl,_⟩:=h
  rfl
 ·obtain ⟨a,os,b,rfl,ta,hob,hol,hb,k⟩:=h
  refine ⟨_,(ac (au (i:=2) sc_counts.nd rfl (Di rfl) (aU zC (bC (al ag ad)) (qv 1)))
   (ac (dC D4 rfl (bc (K:=K) (qv 0)) (ak (i:=3) sc_counts.nd rfl (Di rfl)) (am (kW (K:=K) (qv 2) (qv 3) ag)))
   (am (aD (qv 2))))),?_⟩
  rw [show L2.start ["row","base","often","figure"] [MU a,MS b]=[some (MU a),some (MS b),none,none] from rfl]
  nofun
  refine ⟨aL (by simp),λ q0 hq0=>?_⟩
  have s2:=(MW H).new (o:=.lst [MS 0]) hq0
  have t0:(upd H q0 (.lst [MS 0])) q0=some (.lst [MS 0]):=ab
  generalize upd H q0 (.lst [MS 0])=H2 at s2 t0
  nofun
  refine ⟨q0,_,_,rfl,rfl,t0,by lia,by lia,aL (by simp; lia),λ m hm=>?_⟩
  have efl:(DC ((b:Nat):Int).toNat [MS 0]).flatten=NV (cnt [] b):=by
   show (DC b [MS 0]).flatten=_
   rw [GX,NV,L2.cnt,EB]
   apply Fv (by simp)
   intro i h1 h2
   simp
  rw [efl]
  have hmn:H m=none:=s2.free hm
  have s3:=s2.new (o:=.lst (NV (cnt [] b))) hm
  have tm:(upd H2 m (.lst (NV (cnt [] b)))) m=some (.lst (NV (cnt [] b))):=ab
  generalize upd H2 m (.lst (NV (cnt [] b)))=H3 at s3 tm
  nofun
  refine ⟨a,rfl,⟨_,MQ (s3 _ _ ta)⟩,gh (a:=a) (xs:=NV os) (λ i σ H'=>Same H H'/\H' m=some (.lst (NV (cnt (os.take i) b)))/\∃ v,σ=[some (MU a),some (MS b),some (MU m),v]) ⟨s3,tm,none,rfl⟩ (λ i σ H' _ h=>MQ (h.1 _ _ ta)) ?_ ?_⟩
  ·rintro i x σ H4 hx ⟨s4,tm4,v,rfl⟩
   obtain ⟨o,rfl,ho,hom,hi⟩:=aQ hx
   have hlt:=hob o hom
   nofun
   refine ⟨m,_,_,_,rfl,rfl,MQ tm4,by lia,cL (bU hlt),?_⟩
   nofun
   refine ⟨_,_,rfl,rfl,?_⟩
   refine cg tm4 (ci rfl (by rw [ax,aS]; exact hlt)) ?_
   refine ⟨s4.own hmn,?_,_,rfl⟩
   rw [ab,Dz,ho]
   show some (HO.lst ((NV (cnt (os.take i) b)).set o (MS ((((os.take i).count o+1:Nat)):Int))))=some (HO.lst (NV (cnt (os.take i++[o]) b)))
   rw [fy,uH hlt]
  ·rintro σ H4 ⟨s4,tm4,v,rfl⟩
   rw [Da (by rw [ax]; exact C8 _)] at tm4
   nofun
   exact k m H4 hmn s4 tm4
def u0:Sp:=λ vs H Q _=>∃ (a:Addr) (cs:List Nat),vs=[.ref a]/\H a=some (.lst (NV cs))/\cs.length<=64/\∀ (l:Addr) H',H l=none->Same H H'->H' l=some (.lst (NV (ph cs)))->Q (.ref l) H'
theorem gM (T:Tx K mg t):FnOk P w K mg base CX0 1 t.lM t.lJ ["counts"] u0:=by
 refine T.gU.okQ sc_begins (λ vs H Q E h=>?_) (λ cdv A outer s H vs Q E hr h=>?_)
 ·obtain ⟨a,cs,rfl,_⟩:=h
  rfl
 ·obtain ⟨a,cs,rfl,ta,hcl,k⟩:=h
  refine ⟨_,(ac (au (i:=1) sc_begins.nd rfl (Di rfl) (bC ad))
   (ac (au (i:=2) sc_begins.nd rfl (Di rfl) ag)
   (ac (dC D4 rfl (bc (K:=K) (qv 0)) (ak (i:=3) sc_begins.nd rfl (Di rfl)) (ac (eV (dA (K:=K) (qv 1) (al (qv 2) ad)))
   (am (nQ (i:=2) sc_begins.nd rfl (Di rfl) (qv 3) l7))))
   (am (aD (qv 1)))))),?_⟩
  rw [show L2.start ["counts","lesser","so_far","many"] [MU a]=[some (MU a),none,none,none] from rfl]
  nofun
  refine ⟨aL (by simp),λ l hl=>?_⟩
  have s1:=(MW H).new (o:=.lst []) hl
  have t1:(upd H l (.lst [])) l=some (.lst (NV ((ph cs).take 0))):=ab
  generalize upd H l (.lst [])=H1 at s1 t1
  nofun
  refine ⟨a,rfl,⟨_,MQ (s1 _ _ ta)⟩,gh (a:=a) (xs:=NV cs) (λ i σ H'=>Same H H'/\H' l=some (.lst (NV ((ph cs).take i)))/\∃ v,σ=[some (MU a),some (MU l),some (MS ((cs.take i).sum:Nat)),v]) ⟨s1,t1,none,rfl⟩ (λ i σ H' _ h=>MQ (h.1 _ _ ta)) ?_ ?_⟩
  ·rintro i x σ H2 hx ⟨s2,t2,v,rfl⟩
   obtain ⟨o,rfl,ho,hom,hi⟩:=aQ hx
   nofun
   refine ⟨cj t2,?_⟩
   nofun
   refine bS t2 (by rw [ax,Df,iV]; exact ap (by lia)) ?_
   rw [cM,<-rb hi]
   have e:(((cs.take i).sum:Nat):Int)+(o:Int)=((cs.take (i+1)).sum:Nat):=by rw [Dz,ho,ER]; simp
   nofun
   exact ⟨s2.own hl,ab,some (MS (o:Nat)),by rw [<-e]; rfl⟩
  ·rintro σ H2 ⟨s2,t2,v,rfl⟩
   rw [Da (by rw [ax,iV]; exact C8 _)] at t2
   nofun
   exact k l H2 hl s2 t2
def u1:Sp:=λ vs H Q _=>∃ (a:Addr) (os:List Nat),vs=[.ref a]/\(H a=some (.lst (NV os))\/H a=some (.tup (NV os)))/\os.length<=64/\∀ H',Same H H'->Q (.bl (bD os)) H'
theorem gN {os:List Nat} {o:Nat} (h:os[i]? = some o):iU (os.take (i+1))=iU (os.take i)++(if 0<o then [o] else []):=by
 unfold iU
 rw [Dz,h,ES]
 congr 1
 simp only [Lc]
 split<;>simp_all
theorem oI (os:List Nat) (i:Nat):(iU (os.take i)).length<=i:=by
 refine D9 (G0 _ _) ?_
 rw [Df]; lia
theorem mK (T:Tx K mg t):FnOk P w K mg base CX0 1 t.fY t.fW ["often"] u1:=by
 refine T.jP.okQ mJ (λ vs H Q E h=>?_) (λ cdv A outer s H vs Q E hr h=>?_)
 ·obtain ⟨a,os,rfl,_⟩:=h
  rfl
 ·obtain ⟨a,os,rfl,ha,hol,k⟩:=h
  have e9:decide (((iU os).length:Int) > 1)=bD os:=by
   unfold bD
   exact decide_eq_decide.mpr (by lia)
  rcases ha with ta | ta
  ·refine ⟨_,(am (aD (fJ vx (ay (bt (K:=K)) (by rfl) T.cA bx (al (iT (N:=["many"]) (tgs:=["many"]) (frs:=[]) (ix:=[]) ⟨rfl,by decide +kernel,rfl,by decide +kernel,rfl,rfl,Dv,Dv,rfl⟩ rfl (bc (K:=K) (qv 0)) (λ _ _ _ _=>(ak (i:=0) (by show DW (["many"]:List Str); decide +kernel) rfl (Di rfl))) (λ _ _ _ _=>(qv 0)) (λ _ _ _ _=>(aB vx (qv 0) ag (aG _)))) ad)) ag (aG _)))),?_⟩
   rw [show L2.start ["often"] [MU a]=[some (MU a)] from rfl]
   nofun
   refine ⟨a,rfl,⟨_,MQ ta⟩,jo (a:=a) (vs:=NV os) (λ i ys σ H'=>H'=H/\ys=NV (iU (os.take i))/\∃ v,σ=[v]) (by rw [ax]; exact ap (by lia)) (λ i ys σ H' h=>by rw [h.2.1,ax]; exact oI os i) (λ i ys σ H' h=>by rw [h.1]; exact MQ ta) ⟨rfl,rfl,none,rfl⟩ ?_ ?_⟩
   ·rintro i ys σ H' x hx ⟨rfl,rfl,v,rfl⟩
    have hil:=aR hx
    obtain ⟨o,rfl,ho,_,_⟩:=aQ hx
    nofun
    refine aY (λ g=>?_) (λ g=>?_)
    ·nofun
     refine MX hil ⟨rfl,?_,_,rfl⟩
     rw [cM,gN ho,if_pos (by lia)]
    ·refine MX hil ⟨rfl,?_,_,rfl⟩
     rw [gN ho,if_neg (by lia),Ef]
   ·rintro ys σ H' ⟨rfl,rfl,v,rfl⟩ l hl
    rw [Da (by rw [ax]; exact C8 _)]
    nofun
    refine bb (MQ ab) ?_
    rw [ax]
    nofun
    rw [e9]
    exact k _ ((MW H').new hl)
  ·refine ⟨_,(am (aD (fJ vx (ay (bt (K:=K)) (by rfl) T.cA bx (al (iT (N:=["many"]) (tgs:=["many"]) (frs:=[]) (ix:=[]) ⟨rfl,by decide +kernel,rfl,by decide +kernel,rfl,rfl,Dv,Dv,rfl⟩ rfl (qK (K:=K) (qv 0)) (λ _ _ _ _=>(ak (i:=0) (by show DW (["many"]:List Str); decide +kernel) rfl (Di rfl))) (λ _ _ _ _=>(qv 0)) (λ _ _ _ _=>(aB vx (qv 0) ag (aG _)))) ad)) ag (aG _)))),?_⟩
   rw [show L2.start ["often"] [MU a]=[some (MU a)] from rfl]
   nofun
   refine ⟨a,rfl,⟨_,MR ta⟩,qZ (a:=a) (vs:=NV os) (λ i ys σ H'=>H'=H/\ys=NV (iU (os.take i))/\∃ v,σ=[v]) (by rw [ax]; exact ap (by lia)) (λ i ys σ H' h=>by rw [h.2.1,ax]; exact oI os i) (λ i ys σ H' h=>by rw [h.1]; exact MR ta) ⟨rfl,rfl,none,rfl⟩ ?_ ?_⟩
   ·rintro i ys σ H' x hx ⟨rfl,rfl,v,rfl⟩
    have hil:=aR hx
    obtain ⟨o,rfl,ho,_,_⟩:=aQ hx
    nofun
    refine aY (λ g=>?_) (λ g=>?_)
    ·nofun
     refine MX hil ⟨rfl,?_,_,rfl⟩
     rw [cM,gN ho,if_pos (by lia)]
    ·refine MX hil ⟨rfl,?_,_,rfl⟩
     rw [gN ho,if_neg (by lia),Ef]
   ·rintro ys σ H' ⟨rfl,rfl,v,rfl⟩ l hl
    rw [Da (by rw [ax]; exact C8 _)]
    nofun
    refine bb (MQ ab) ?_
    rw [ax]
    nofun
    rw [e9]
    exact k _ ((MW H').new hl)
noncomputable def xU (os:List Nat) (b:Nat):List Nat:=(C9 b).map λ f=>ai os f
theorem xV (os:List Nat) (b:Nat):(xU os b).length=b:=by simp [xU]
theorem sv {os:List Nat} (h:f<b):(xU os b)[f]? = some (ai os f):=by simp [xU,h]
theorem oJ (os:List Nat) (b:Nat):ph (cnt os b)=xU os b:=by
 unfold ph xU
 rw [aS]
 apply Ep
 intro f hf
 exact bh os b f (EN (DN.mp hf))
def u4:Sp:=λ vs H Q _=>∃ (p:Addr) (k:Int),vs=[.ref p,.int k]/\Tp2 H p/\∀ (r:Nat) H',r<=200->St2 p H H'->Q (.int r) H'
theorem xW (T:Tx K mg t):FnOk P w K mg base CX0 2 t.tO t.tF ["_law_tape_here","_law_k"] u4:=by
 refine T.vU.okQ xR (λ vs H Q E h=>?_) (λ cdv A outer s H vs Q E hr h=>?_)
 ·obtain ⟨p,k,rfl,_⟩:=h
  rfl
 ·obtain ⟨p,kk,rfl,hT,k⟩:=h
  refine ⟨_,(ac (di (QW.qt (ki (aB uz (qv 1) ag (aG _)) (jj (aB uz (av (bK T) (hr.mono (by decide)) rfl T.c5 T.cF.kp T.cV aK (al (qv 0) (al ag ad))) ag (aG _))))) (am (aD ag)) bP)
   (am (aD (aC (bg (K:=K)) (bC (al (av (bK T) (hr.mono (by decide)) rfl T.c5 T.cF.kp T.cV aK (al (qv 0) (al ag ad))) (al (aU cK ag (av (bK T) (hr.mono (by decide)) rfl T.c5 T.cF.kp T.cV aK (al (qv 0) (al ag ad)))) ad))) (aV qM (by rfl) T.pU sr (al (fJ uz (av (bK T) (hr.mono (by decide)) rfl T.c5 T.cF.kp T.cV aK (al (qv 0) (al ag ad))) ag (aG _)) ad)))))),?_⟩
  rw [show L2.start ["_law_tape_here","_law_k"] [MU p,MS kk]=[some (MU p),some (MS kk)] from rfl]
  nofun
  apply BG (α:=Nat) (S:=λ _ H3=>St2 p H H3)
  case hA=>
   intro key
   refine aY (λ h1=>?_) (λ h1=>?_)
   ·nofun
    refine ⟨p,16,rfl,hT,by decide,by decide,λ r2 H3 a2 S3=>?_⟩
    nofun
    refine aY (λ h2=>?_) (λ h2=>?_)
    ·nofun
     exact k 200 H3 (by lia) S3
    ·nofun
     exact key r2 H3 S3
   ·nofun
    exact key 0 H (St2.refl hT)
  case hB=>
   rintro _ H3 S3
   nofun
   refine ⟨p,7,rfl,S3.tape,by decide,by decide,λ r1 H4 a1 S4=>?_⟩
   nofun
   refine ⟨p,6,rfl,S4.tape,by decide,by decide,λ r2 H5 a2 S5=>?_⟩
   nofun
   refine ⟨aL (by simp),λ q hq=>?_⟩
   have nq:=S5.tape.ne hq
   have S6:=((S3.trans S4).trans S5).new (o:=.lst [MS (r1:Int),MS (7+(r2:Int))]) hq
   have tq:(upd H5 q (.lst [MS (r1:Int),MS (7+(r2:Int))])) q=some (.lst [MS (r1:Int),MS (7+(r2:Int))]):=ab
   generalize upd H5 q (.lst [MS (r1:Int),MS (7+(r2:Int))])=H6 at S6 tq
   nofun
   refine ⟨p,8,rfl,S6.tape,by decide,by decide,λ r3 H7 a3 S7=>?_⟩
   nofun
   obtain ⟨v,e,hv⟩:=g7 (xs:=[MS (r1:Int),MS (7+(r2:Int))]) (r:=if decide (MS (r3:Int)=MS 0)=true then 1 else 0) (by split<;>lia) (by simp only [DD,E6]; split<;>lia)
   refine br (MQ (S7.keep q _ tq nq)) e ?_
   have hv':∃ m:Nat,v=MS m/\m<=200:=by
    simp only [Dx,Ed,or_false] at hv
    rcases hv with rfl | rfl
    ·exact ⟨r1,rfl,by lia⟩
    ·exact ⟨7+r2,by congr 1,by lia⟩
   obtain ⟨m,rfl,hm⟩:=hv'
   exact k m H7 hm (S6.trans S7)
def xX:Sp:=λ vs H Q _=>∃ (p:Addr),vs=[.ref p]/\Tp2 H p/\∀ (b:Nat) H',2<=b->b<=64->St2 p H H'->Q (.int b) H'
theorem xY (T:Tx K mg t):FnOk P w K mg base CX0 2 t.tM t.sZ ["_law_tape_here"] xX:=by
 refine T.vT.okQ xS (λ vs H Q E h=>?_) (λ cdv A outer s H vs Q E hr h=>?_)
 ·obtain ⟨p,rfl,_⟩:=h
  rfl
 ·obtain ⟨p,rfl,hT,k⟩:=h
  refine ⟨_,(am (aD (aC (bg (K:=K)) (bC (al ag (al ag (al ag (al ag (al ag (al (aU cK ag (av (bK T) (hr.mono (by decide)) rfl T.c5 T.cF.kp T.cV aK (al (qv 0) (al ag ad)))) ad))))))) (av (bK T) (hr.mono (by decide)) rfl T.c5 T.cF.kp T.cV aK (al (qv 0) (al ag ad)))))),?_⟩
  rw [show L2.start ["_law_tape_here"] [MU p]=[some (MU p)] from rfl]
  nofun
  refine ⟨p,63,rfl,hT,by decide,by decide,λ r1 H1 a1 S1=>?_⟩
  nofun
  refine ⟨aL (by simp),λ q hq=>?_⟩
  nofun
  refine ⟨p,6,rfl,(S1.new hq).tape,by decide,by decide,λ r3 H4 a3 S4=>?_⟩
  obtain ⟨v,e,hv⟩:=g7 (xs:=[MS 2,MS 3,MS 10,MS 16,MS 64,MS (2+(r1:Int))]) (r:=(r3:Int)) (by lia) (by simp only [DD,E6]; lia)
  refine br (MQ (S4.keep q _ ab (S1.tape.ne hq))) e ?_
  have S:=(S1.new (o:=.lst [MS 2,MS 3,MS 10,MS 16,MS 64,MS (2+(r1:Int))]) hq).trans S4
  simp only [Dx,Ed,or_false] at hv
  rcases hv with rfl | rfl | rfl | rfl | rfl | rfl
  ·exact k 2 H4 (by lia) (by lia) S
  ·exact k 3 H4 (by lia) (by lia) S
  ·exact k 10 H4 (by lia) (by lia) S
  ·exact k 16 H4 (by lia) (by lia) S
  ·exact k 64 H4 (by lia) (by lia) S
  ·exact k (2+r1) H4 (by lia) (by lia) S
section
variable {K:C7} {H:Hp} {Q:VK}
theorem sw {lo hi:Option Int} (h1:H a=some (.tup xs)) (h:∀ p H',Same H H'->H' p=some (.tup (kI xs lo hi))->Q (.ref p) H'):xD (.ref a) lo hi H Q:=⟨a,xs,rfl,h1,h⟩
end
def RowsT (H:Hp) (ps:List Addr) (rss:List (List Nat)):Prop:=ps.length=rss.length/\∀ (i:Nat) p r,ps[i]? = some p->rss[i]? = some r->H p=some (.tup (NV r))
theorem RowsT.same {H:Hp} {ps:List Addr} {rss:List (List Nat)} (h:RowsT H ps rss) (e:Same H H1):RowsT H1 ps rss:=⟨h.1,λ i p z a c=>e _ _ (h.2 i p z a c)⟩
theorem RowsT.snoc {H:Hp} {ps:List Addr} {rss:List (List Nat)} {p:Addr} (h:RowsT H ps rss) (e:H p=some (.tup (NV r))):RowsT H (ps++[p]) (rss++[r]):=by
 refine ⟨by simp [h.1],λ i q y a c=>?_⟩
 rcases aN a with ⟨l,a⟩ | ⟨l,a⟩
 ·rcases aN c with ⟨_,c⟩ | ⟨l',c⟩
  ·exact h.2 i q y a c
  ·have:=h.1; lia
 ·rcases aN c with ⟨l',c⟩ | ⟨_,c⟩
  ·have:=h.1; lia
  ·rw [a,c]; exact e
theorem RowsT.st2 {H:Hp} {ps:List Addr} {rss:List (List Nat)} (h:RowsT H ps rss) (t:Tp2 H q) (e:St2 q H H1):RowsT H1 ps rss:=⟨h.1,λ i p z a b=>by
 have hp:=h.2 i p z a b
 obtain ⟨x,y,ht,_⟩:=t
 exact e.keep _ _ hp (cB hp ht (by intro c; cases c))⟩
theorem u5 {H:Hp} {p x:Addr} {zs:List V} (t:Tp2 H p) (hx:H x=some (.tup zs)):x≠p:=by
 obtain ⟨a1,a2,h9,_⟩:=t
 exact cB hx h9 (by intro c; cases c)
theorem RowsT.own {H:Hp} {ps:List Addr} {rss:List (List Nat)} {l:Addr} (h:RowsT H ps rss) (hl:H l=some (.lst xs)):RowsT (upd H l (.lst ys)) ps rss:=⟨h.1,λ i p z a b=>by
 have:=h.2 i p z a b
 rw [af (cB this hl (by intro c; cases c))]; exact this⟩
def Good (rss:List (List Nat)) (w b:Nat):Prop:=∀ r∈rss,r.length=w/\∀ x∈r,x<b
theorem Good.snoc {rss:List (List Nat)} {w:Nat} (h:Good rss w b) (h1:r.length=w) (h2:∀ x∈r,x<b):Good (rss++[r]) w b:=λ q hq=>by
 rcases DG.mp hq with g | g
 ·exact h q g
 ·rw [Dk.mp g]; exact ⟨h1,h2⟩
theorem xZ {rss:List (List Nat)} {w:Nat} (h:Good rss w b) (hr:rss[i]? = some r) (hc:c<w):r[c]? = some (r.getD c 0)/\(fz rss c)[i]? = some (r.getD c 0):=by
 have hl:=(h r (Ek hr)).1
 constructor
 ·have:c<r.length:=by lia
  simp [this]
 ·unfold fz
  rw [De,hr]; rfl
theorem vQ {rss:List (List Nat)} {w:Nat} (h:Good rss w b) (hc:c<w):∀ o∈fz rss c,o<b:=λ o ho=>by
 obtain ⟨r,hr,rfl⟩:=DM.mp ho
 obtain ⟨h1,h2⟩:=h r hr
 have:c<r.length:=by lia
 apply h2
 rw [C5,C4 this]
 exact Dl this
theorem x6 (rss:List (List Nat)) (c:Nat):(fz rss c).length=rss.length:=by simp [fz]
theorem sH {K:C7} {H:Hp} {Q:VK} {p:Addr} (s:H p=some (.tup xs)) (h:Q (.bl false) H):yr K [.ref p,.ty "list"] H Q:=⟨_,_,_,_,rfl,.tup s,rfl,h⟩
def Ae:Sp:=λ vs H Q _=>∃ x,vs=[x]/\Th H x/\∀ y H',Same H H'->ThE H' x y->Q y H'
theorem jK (T:Tx K mg t):FnOk P w K mg base CX0 1 t.iz t.ir ["thing"] Ae:=by
 refine T.il.okQ sc_own_copy (λ vs H Q E h=>?_) (λ cdv A outer s H vs Q E hr h=>?_)
 ·obtain ⟨x,rfl,_⟩:=h
  rfl
 ·obtain ⟨x,rfl,hx,k⟩:=h
  obtain ⟨xs,hxl,hxs,hxc⟩:∃ xs:List V,xs.length<=2/\(∀ z∈xs,Sc z)/\((Sc x/\xs=[])\/∃ t,x=.ref t/\H t=some (.tup xs)/\0<xs.length):=by
   rcases hx with h | ⟨t,xs,rfl,ht,h0,h2,hs⟩
   ·exact ⟨[],Du _,(λ z hz=>nomatch hz),.inl ⟨h,rfl⟩⟩
   ·exact ⟨xs,h2,hs,.inr ⟨t,rfl,ht,h0⟩⟩
  refine ⟨_,(ac (au (i:=1) sc_own_copy.nd rfl (Di rfl) (bC (al (qv 0) ad)))
   (ac (au (i:=2) sc_own_copy.nd rfl (Di rfl) (bC ad))
   (ac (dL D4 (aB vw (ay (bt (K:=K)) (by rfl) T.cA bx (al (qv 2) ad)) (ay (bt (K:=K)) (by rfl) T.cA bx (al (qv 1) ad)) (aG _)) (ac (au (i:=3) sc_own_copy.nd rfl (Di rfl) (aC (bg (K:=K)) (qv 1) (ay (bt (K:=K)) (by rfl) T.cA bx (al (qv 2) ad))))
   (ac (eV (dA (K:=K) (qv 2) (al (ay (bt (K:=K)) (by rfl) T.cA bx (al (qv 1) ad)) ad)))
   (am (di (l6 (ay (xC (K:=K)) (by rfl) T.bR dS (al (qv 3) (al (bo (al (kO rfl T.gZ jG (v:=.ty "list") rfl) (al (kO rfl T.dy dU (v:=.ty "tuple") rfl) ad))) ad)))) (am (eV (pk (K:=K) (qv 1) (al (qv 3) ad)))) bP)))))
   (ac (dC D4 rfl (qY rfl T.c6 (al (aU xl (ay (bt (K:=K)) (by rfl) T.cA bx (al (qv 1) ad)) ag) (al (xi xn ag) (al (xi xn ag) ad)))) (ak (i:=4) sc_own_copy.nd rfl (Di rfl)) (ac (au (i:=3) sc_own_copy.nd rfl (Di rfl) (aC (bg (K:=K)) (qv 1) (qv 4)))
   (am (di (l6 (ay (vz (K:=K)) (by rfl) T.bR dS (al (qv 3) (al (kO rfl T.gZ jG (v:=.ty "list") rfl) ad)))) (am (cJ (dJ (qL (K:=K)) (qv 1) (cD (aC (bg (K:=K)) (qv 2) (qv 4))) (cD (aU cK (aC (bg (K:=K)) (qv 2) (qv 4)) (ay (bt (K:=K)) (by rfl) T.cA bx (al (qv 3) ad))))) (qv 1) (qv 4))) (am (di (l6 (ay (vz (K:=K)) (by rfl) T.bR dS (al (qv 3) (al (kO rfl T.dy dU (v:=.ty "tuple") rfl) ad)))) (am (cJ (aV (gu (K:=K)) (by rfl) T.dy dU (al (dJ (qL (K:=K)) (qv 1) (cD (aC (bg (K:=K)) (qv 2) (qv 4))) (cD (aU cK (aC (bg (K:=K)) (qv 2) (qv 4)) (ay (bt (K:=K)) (by rfl) T.cA bx (al (qv 3) ad))))) ad)) (qv 1) (qv 4))) bP))))))
   (am (aD (aC (bg (K:=K)) (qv 1) ag))))))),?_⟩
  rw [show L2.start ["thing","parts","firsts","part","at"] [x]=[some (x),none,none,none,none] from rfl]
  nofun
  refine ⟨aL (by simp),λ pl hpl=>?_⟩
  have s1:=(MW H).new (o:=.lst [x]) hpl
  have tp1:(upd H pl (.lst [x])) pl=some (.lst [x]):=ab
  generalize upd H pl (.lst [x])=H1 at s1 tp1
  nofun
  refine ⟨aL (by simp),λ fl hfl=>?_⟩
  have hfn:H fl=none:=s1.free hfl
  have hpf:pl≠fl:=ae tp1 hfl
  have s2:=s1.new (o:=.lst []) hfl
  have tp2:(upd H1 fl (.lst [])) pl=some (.lst [x]):=by rw [af hpf]; exact tp1
  have tf2:(upd H1 fl (.lst [])) fl=some (.lst (NV [])):=ab
  generalize upd H1 fl (.lst [])=H2 at s2 tp2 tf2
  nofun
  refine ⟨λ c σ H'=>∃ (fs:List Nat),c=1+xs.length - fs.length/\fs.length<=1+xs.length/\Same H H'/\H' fl=some (.lst (NV fs))/\((fs=[]/\H' pl=some (.lst [x]))\/(fs[0]? = some 1/\H' pl=some (.lst (x::xs))))/\∃ v3 v4,σ=[some x,some (MU pl),some (MU fl),v3,v4],⟨_,[],rfl,by simp,s2,tf2,.inl ⟨rfl,tp2⟩,_,_,rfl⟩,?_⟩
  rintro c σ H3 ⟨fs,rfl,hfs,s3,tf3,hcase,v3,v4,rfl⟩
  rcases hcase with ⟨rfl,tp3⟩ | ⟨hf0,tp3⟩
  ·nofun
   refine bb (MQ tf3) ?_
   nofun
   refine bb (MQ tp3) ?_
   nofun
   refine zt (by show ((0:Nat):Int)<((1:Nat):Int); decide) ?_
   refine ⟨_,λ _ _ z=>z,?_⟩
   nofun
   refine bb (MQ tf3) ?_
   nofun
   refine ⟨cj tf3,?_⟩
   nofun
   refine bb (MQ tp3) ?_
   nofun
   refine bS tf3 (ap (by simp [ax])) ?_
   have s4:=s3.own (o:=.lst (NV [1])) hfn
   have tf4:(upd H3 fl (.lst (NV [1]))) fl=some (.lst (NV [1])):=ab
   have tp4:(upd H3 fl (.lst (NV [1]))) pl=some (.lst [x]):=by rw [af hpf]; exact tp3
   have eap:NV []++[MS (([x]:List V).length:Nat)]=NV [1]:=rfl
   rw [eap]
   generalize upd H3 fl (.lst (NV [1]))=H4 at s4 tf4 tp4
   nofun
   refine ⟨aL (by simp),λ tp htp=>?_⟩
   have s5:=s4.new (o:=.tup [M0 "list",M0 "tuple"]) htp
   have ttp:(upd H4 tp (.tup [M0 "list",M0 "tuple"])) tp=some (.tup [M0 "list",M0 "tuple"]):=ab
   have tf5:(upd H4 tp (.tup [M0 "list",M0 "tuple"])) fl=some (.lst (NV [1])):=by rw [af (ae tf4 htp)]; exact tf4
   have tp5:(upd H4 tp (.tup [M0 "list",M0 "tuple"])) pl=some (.lst [x]):=by rw [af (ae tp4 htp)]; exact tp4
   generalize upd H4 tp (.tup [M0 "list",M0 "tuple"])=H5 at s5 ttp tf5 tp5
   nofun
   rcases hxc with ⟨hsc,rfl⟩ | ⟨t,rfl,ht,h0⟩
   ·refine nY ttp hsc ?_
    nofun
    exact ⟨_,by simp,[1],rfl,by simp,s5,tf5,.inr ⟨rfl,tp5⟩,_,_,rfl⟩
   ·refine uI (s5 _ _ ht) ttp ?_
    nofun
    refine ⟨cj tp5,?_⟩
    nofun
    refine pq tp5 (s5 _ _ ht) (aL (by simp; lia)) ?_
    exact ⟨_,by simp,[1],rfl,by simp,s5.own hpl,by rw [af (DX hpf)]; exact tf5,.inr ⟨rfl,ab⟩,_,_,rfl⟩
  ·have hf1:0<fs.length:=aR hf0
   nofun
   refine bb (MQ tf3) ?_
   rw [ax]
   nofun
   refine bb (MQ tp3) ?_
   rw [DD]
   nofun
   refine aY (λ g=>?_) (λ g=>?_)
   ·refine ⟨_,λ _ _ z=>z,?_⟩
    have hlt:fs.length<1+xs.length:=by lia
    obtain ⟨i,hi⟩:∃ i,fs.length=i+1:=⟨fs.length - 1,by lia⟩
    have hix:i<xs.length:=by lia
    have hget:(x::xs)[fs.length]? = some xs[i]:=by rw [hi,IN,C4 hix]
    nofun
    refine bb (MQ tf3) ?_
    rw [ax]
    refine br (MQ tp3) (v:=xs[i]) (aO hget) ?_
    have hsc:=hxs _ (Dl hix)
    generalize xs[i]=part at hsc
    nofun
    refine ⟨cj tf3,?_⟩
    nofun
    refine bb (MQ tp3) ?_
    rw [DD]
    nofun
    refine bS tf3 (by rw [ax]; exact ap (by lia)) ?_
    rw [cM]
    have s4:=s3.own (o:=.lst (NV (fs++[xs.length+1]))) hfn
    have tf4:(upd H3 fl (.lst (NV (fs++[xs.length+1])))) fl=some (.lst (NV (fs++[xs.length+1]))):=ab
    have tp4:(upd H3 fl (.lst (NV (fs++[xs.length+1])))) pl=some (.lst (x::xs)):=by rw [af hpf]; exact tp3
    generalize upd H3 fl (.lst (NV (fs++[xs.length+1])))=H4 at s4 tf4 tp4
    nofun
    refine ⟨aL (by simp),λ tp htp=>?_⟩
    have s5:=s4.new (o:=.tup [M0 "list",M0 "tuple"]) htp
    have ttp:(upd H4 tp (.tup [M0 "list",M0 "tuple"])) tp=some (.tup [M0 "list",M0 "tuple"]):=ab
    have tf5:(upd H4 tp (.tup [M0 "list",M0 "tuple"])) fl=some (.lst (NV (fs++[xs.length+1]))):=by rw [af (ae tf4 htp)]; exact tf4
    have tp5:(upd H4 tp (.tup [M0 "list",M0 "tuple"])) pl=some (.lst (x::xs)):=by rw [af (ae tp4 htp)]; exact tp4
    generalize upd H4 tp (.tup [M0 "list",M0 "tuple"])=H5 at s5 ttp tf5 tp5
    nofun
    refine nY ttp hsc ?_
    nofun
    exact ⟨_,by rw [Dg,Gw]; lia,fs++[xs.length+1],rfl,by rw [Dg,Gw]; lia,s5,tf5,.inr ⟨by rw [Do hf1]; exact hf0,tp5⟩,_,_,rfl⟩
   ·have hfl2:fs.length=1+xs.length:=by lia
    nofun
    refine bb (MQ tp3) ?_
    rw [DD]
    nofun
    refine ⟨xs.length+1,rfl,by lia,qP (n:=xs.length+1) (λ j σ H'=>Same H H'/\H' fl=some (.lst (NV fs))/\(∃ y,H' pl=some (.lst (y::xs))/\(j<xs.length+1->y=x)/\(j=xs.length+1->ThE H' x y))/\∃ v3 v4,σ=[some x,some (MU pl),some (MU fl),v3,v4]) ⟨s3,tf3,⟨x,tp3,λ _=>rfl,λ h=>by lia⟩,_,_,rfl⟩ (λ i σ H' hi _=>hi) (λ σ H' _=>C8 _) ?_ ?_⟩
    ·rintro j x0 σ H4o H4 hj ⟨s4,tf4,⟨y,tp4,hy1,hy2⟩,v3,v4,rfl⟩ ⟨rfl,rfl⟩
     have hyx:=hy1 hj
     subst hyx
     by_cases hjm:j=xs.length
     ·have e0:xs.length+1 - 1 - j=0:=by lia
      rw [e0]
      nofun
      refine br (MQ tp4) (v:=y) (aO (j:=0) rfl) ?_
      nofun
      rcases hxc with ⟨hsc,hxn⟩ | ⟨t,hyt,ht,h0⟩
      ·refine nZ hsc ?_
       nofun
       refine n8 hsc ?_
       nofun
       exact ⟨s4,tf4,⟨y,tp4,λ _=>rfl,λ _=>.inl ⟨hsc,rfl⟩⟩,_,_,rfl⟩
      ·rw [hyt]
       have ht4:=s4 _ _ ht
       refine sH ht4 ?_
       nofun
       refine ux ht4 ?_
       nofun
       refine br (MQ tf4) (jX (i:=0) rfl hf0) ?_
       nofun
       refine ⟨_,rfl,?_⟩
       nofun
       refine br (MQ tf4) (jX (i:=0) rfl hf0) ?_
       nofun
       refine qI (MR ht4) ?_
       nofun
       refine ⟨_,rfl,?_⟩
       refine ⟨pl,_,rfl,MQ tp4,λ z hz=>?_⟩
       have ecut:kI (y::xs) (some ((1:Nat):Int)) (some (((1:Nat):Int)+(xs.length:Nat)))=xs:=by
        have e1:((1:Nat):Int)+(xs.length:Nat)=((1+xs.length:Nat):Int):=by lia
        unfold kI
        rw [e1,HT.eT,HT.eT,DD]
        have m1:min 1 (xs.length+1)=1:=by lia
        have m2:min (1+xs.length) (xs.length+1)=xs.length+1:=by lia
        rw [m1,m2,JB,DZ,Da (by lia)]
       rw [ecut]
       have s5:=s4.new (o:=.lst xs) hz
       have tz:(upd H4 z (.lst xs)) z=some (.lst xs):=ab
       have tf5:(upd H4 z (.lst xs)) fl=some (.lst (NV fs)):=by rw [af (ae tf4 hz)]; exact tf4
       have tp5:(upd H4 z (.lst xs)) pl=some (.lst (y::xs)):=by rw [af (ae tp4 hz)]; exact tp4
       generalize upd H4 z (.lst xs)=H5 at s5 tz tf5 tp5
       nofun
       refine ji (MQ tz) λ u hu=>?_
       have s6:=s5.new (o:=.tup xs) hu
       have tu:(upd H5 u (.tup xs)) u=some (.tup xs):=ab
       have tf6:(upd H5 u (.tup xs)) fl=some (.lst (NV fs)):=by rw [af (ae tf5 hu)]; exact tf5
       have tp6:(upd H5 u (.tup xs)) pl=some (.lst (y::xs)):=by rw [af (ae tp5 hu)]; exact tp5
       have hup:u≠pl:=λ e=>by rw [e,tp5] at hu; cases hu
       generalize upd H5 u (.tup xs)=H6 at s6 tu tf6 tp6
       nofun
       refine cg tp6 (ci (i:=0) rfl (by simp)) ?_
       have s7:=s6.own (o:=.lst ((y::xs).set 0 (MU u))) hpl
       refine ⟨s7,by rw [af (DX hpf)]; exact tf6,⟨MU u,by rw [ab]; rfl,λ h=>by lia,λ _=>.inr ⟨t,u,xs,rfl,rfl,s7 _ _ ht,by rw [af hup]; exact tu,h0,hxl,hxs⟩⟩,_,_,rfl⟩
     ·obtain ⟨i,hi,hil⟩:∃ i,xs.length+1 - 1 - j=i+1/\i<xs.length:=⟨xs.length - j - 1,by lia,by lia⟩
      rw [hi]
      have hsc:=hxs _ (Dl hil)
      nofun
      refine br (MQ tp4) (v:=xs[i]) (aO (by rw [IN,C4 hil])) ?_
      generalize xs[i]=part at hsc
      nofun
      refine nZ hsc ?_
      nofun
      refine n8 hsc ?_
      nofun
      exact ⟨s4,tf4,⟨y,tp4,λ _=>rfl,λ h=>by lia⟩,_,_,rfl⟩
    ·rintro σ H4 ⟨s4,tf4,⟨y,tp4,hy1,hy2⟩,v3,v4,rfl⟩
     nofun
     refine br (MQ tp4) (v:=y) (aO (j:=0) rfl) ?_
     exact k y H4 s4 (hy2 rfl)
def u6 (C:Addr):Sp:=λ vs H Q _=>∃ (w pa ma ea:Addr) (us:List V) (hv:V) (st:HW) (f p:Nat),vs=[.ref w,.int (f:Nat),.int (p:Nat)]/\HwAt C H w pa ma ea us hv st/\p<st.ps.length/\Q (.bl (isF st.ps f p)) H
theorem gO (T:Tx K mg t):FnOk P w K mg base CX0 1 t.cw t.cu ["self","figure","place"] (u6 t.aa):=by
 refine T.ik.okQ sc_HeapWalk_stands (λ vs H Q E h=>?_) (λ cdv A outer s H vs Q E hr h=>?_)
 ·obtain ⟨w,pa,ma,ea,us,hv,st,f,p,rfl,_⟩:=h
  rfl
 ·obtain ⟨w,pa,ma,ea,us,hv,st,f,p,rfl,W,hp,k⟩:=h
  obtain ⟨dx,ob⟩:=W.ob
  obtain ⟨v,hv1,hv2⟩:=W.pv.get hp
  unfold isF at k
  refine ⟨_,(ac (au (i:=3) sc_HeapWalk_stands.nd rfl (Di rfl) (aC (bg (K:=K)) (cE (K:=K) (qv 0)) (qv 2)))
   (am (aD (zB (fJ on (qv 3) c7 (aG _)) (zA (fJ uz (aC (dD (K:=K)) (qv 3) ag) (qv 1) (aG _))))))),?_⟩
  rw [show L2.start ["self","figure","place","pair"] [MU w,MS (f:Nat),MS (p:Nat)]=[some (MU w),some (MS (f:Nat)),some (MS (p:Nat)),none] from rfl]
  nofun
  refine ⟨w,t.aa,dx,_,_,rfl,ob,T.aj,T.aA,bQ _ _ _ _ _,?_⟩
  nofun
  refine br (MQ W.tp) (v:=v) (aO hv1) ?_
  cases e:st.ps.getD p none with
  | none=>
   rw [e] at hv2 k
   have hv3:v=.non:=hv2
   subst hv3
   nofun
   rw [decide_eq_true (rfl:MV=MV)]
   nofun
   exact k
  | some z=>
   rw [e] at hv2 k
   obtain ⟨q,rfl,tq⟩:=hv2
   nofun
   rw [decide_eq_false (show ¬ MU q=MV from λ z=>by cases z)]
   nofun
   have e2:decide (MS ((z.1:Nat):Int)=MS ((f:Nat):Int))=decide (z.1=f):=decide_eq_decide.mpr ⟨λ h=>by cases h; rfl,λ h=>by rw [h]⟩
   rw [e2]
   exact k
def Af (C:Addr):Sp:=λ vs H Q _=>∃ (w pa ma ea:Addr) (us:List V) (hv:V) (st:HW) (f:Nat),vs=[.ref w,.int (f:Nat)]/\HwAt C H w pa ma ea us hv st/\HwB st/\f<st.en.length/\
 ∀ H',HwAt C H' w pa ma ea us hv (st.marked f)->(∀ b o,H b=some o->b≠ma->H' b=some o)->Q (.int (st.mark f:Nat)) H'
theorem cU (T:Tx K mg t):FnOk P w K mg base CX0 2 t.bZ t.bY ["self","figure"] (Af t.aa):=by
 refine T.gT.okQ sc_HeapWalk_mark_of (λ vs H Q E h=>?_) (λ cdv A outer s H vs Q E hr h=>?_)
 ·obtain ⟨w,pa,ma,ea,us,hv,st,f,rfl,_⟩:=h
  rfl
 ·obtain ⟨w,pa,ma,ea,us,hv,st,f,rfl,W,B,hf,k⟩:=h
  obtain ⟨dx,ob⟩:=W.ob
  have hfm:f<st.mks.length:=by rw [B.ml]; exact hf
  obtain ⟨b1,b2⟩:=B.mb f hf
  refine ⟨_,(ac (au (i:=2) sc_HeapWalk_mark_of.nd rfl (Di rfl) (aC (bg (K:=K)) (cE (K:=K) (qv 0)) (qv 1)))
   (ac (dL D4 (QW.qt (ki (aB vw (qv 2) (aC (bg (K:=K)) (cE (K:=K) (qv 0)) (qv 1)) (aG _)) (jj (l6 (ng (qv 0) T.aj T.im (gO T) (hr.mono (by decide)) T.io aK (al (qv 1) (al (qv 2) ad))))))) (am (nQ (i:=2) sc_HeapWalk_mark_of.nd rfl (Di rfl) ag l7)))
   (ac (cJ (qv 2) (cE (K:=K) (qv 0)) (qv 1))
   (am (aD (qv 2)))))),?_⟩
  rw [show L2.start ["self","figure","place"] [MU w,MS (f:Nat)]=[some (MU w),some (MS (f:Nat)),none] from rfl]
  nofun
  refine ⟨w,t.aa,dx,_,_,rfl,ob,T.aj,T.aJ,de _ _ _ _ _,?_⟩
  nofun
  refine br (MQ W.tm) (v:=MS (st.mks.getD f 0:Nat)) (aO (by unfold NV; rw [De,lj hfm]; rfl)) ?_
  nofun
  refine ⟨λ mm σ H'=>∃ p:Nat,mm=st.en.getD f 0 - p/\p<=st.en.getD f 0/\H'=H/\goF st.ps f (st.en.getD f 0) p=st.mark f/\σ=[some (MU w),some (MS (f:Nat)),some (MS (p:Nat))],⟨_,_,rfl,b1,rfl,rfl,rfl⟩,?_⟩
  rintro mm σ H' ⟨p,rfl,hp,rfl,e1,rfl⟩
  have fin:st.mark f=p->Q (.int (p:Nat)) (upd H' ma (.lst (NV (st.mks.set f p)))):=λ e=>by
   have:=k _ (by have:=W.setM (st.mks.set f (st.mark f)); exact this) (λ b o e n=>by rw [af n]; exact e)
   rw [e] at this
   exact this
  nofun
  refine ⟨w,t.aa,dx,_,_,rfl,ob,T.aj,T.aX,fM _ _ _ _ _,?_⟩
  nofun
  refine br (MQ W.te) (v:=MS (st.en.getD f 0:Nat)) (aO (by unfold NV; rw [De,lj hf]; rfl)) ?_
  nofun
  refine aY (λ g=>?_) (λ g=>?_)
  ·nofun
   refine ⟨w,dx,_,rfl,ob,iE _ _ _ _ _ (by decide +kernel) (by decide +kernel) (by decide +kernel) (by decide +kernel) (by decide +kernel),?_⟩
   nofun
   refine ⟨w,pa,ma,ea,us,hv,st,f,p,rfl,W,by lia,?_⟩
   cases hF:isF st.ps f p with
   | true=>
    nofun
    refine ⟨_,λ _ _ z=>z,?_⟩
    nofun
    refine ⟨st.en.getD f 0 - (p+1),by lia,p+1,rfl,by lia,rfl,?_,rfl⟩
    rw [<-rE (by lia) hF]; exact e1
   | false=>
    rw [dO (λ z=>by rw [hF] at z; cases z.2)] at e1
    nofun
    refine ⟨w,t.aa,dx,_,_,rfl,ob,T.aj,T.aJ,de _ _ _ _ _,?_⟩
    nofun
    refine cg W.tm (j:=f) (ci rfl (by rw [ax]; exact hfm)) ?_
    rw [fy]
    nofun
    exact fin e1.symm
  ·rw [dO (λ z=>by lia)] at e1
   nofun
   refine ⟨w,t.aa,dx,_,_,rfl,ob,T.aj,T.aJ,de _ _ _ _ _,?_⟩
   nofun
   refine cg W.tm (j:=f) (ci rfl (by rw [ax]; exact hfm)) ?_
   rw [fy]
   nofun
   exact fin e1.symm
def x8 (C:Addr):Sp:=λ vs H Q _=>∃ (w pa ma ea:Addr) (us:List V) (hv:V) (st:HW),vs=[.ref w]/\HwAt C H w pa ma ea us hv st/\HwB st/\st.en.length<=64/\
 ∀ (v:V) (us':List V) (hv':V) H',HwAt C H' w pa ma ea us' hv' (st.takeG st.en.length 0).2->KpH w pa ma H H'->MvV H' v ((st.takeG st.en.length 0).1.map Mv.take)->Q v H'
theorem eD (T:Tx K mg t):FnOk P w K mg base CX0 3 t.bA t.bz ["self"] (x8 t.aa):=by
 refine T.ff.okQ sc_HeapWalk_take_first (λ vs H Q E h=>?_) (λ cdv A outer s H vs Q E hr h=>?_)
 ·obtain ⟨w,pa,ma,ea,us,hv,st,rfl,_⟩:=h
  rfl
 ·obtain ⟨w,pa,ma,ea,us,hv,st,rfl,W,B,hn,k⟩:=h
  obtain ⟨dx,ob⟩:=W.ob
  refine ⟨_,(ac (dC D4 rfl (dB rfl T.c6 (al (ay (bt (K:=K)) (by rfl) T.cA bx (al (cE (K:=K) (qv 0)) ad)) ad)) (ak (i:=1) sc_HeapWalk_take_first.nd rfl (Di rfl)) (ac (au (i:=2) sc_HeapWalk_take_first.nd rfl (Di rfl) (ng (qv 0) T.aj T.df (cU T) (hr.mono (by decide)) T.dg aK (al (qv 1) ad)))
   (am (di (aB vw (qv 2) (aC (bg (K:=K)) (cE (K:=K) (qv 0)) (qv 1)) (aG _)) (ac (jt (K:=K) (qv 0) (aC (bg (K:=K)) (cE (K:=K) (qv 0)) (qv 2)))
   (ac (cJ c7 (cE (K:=K) (qv 0)) (qv 2))
   (am (aD (bo (al kh (al (qv 2) ad))))))) bP))))
   (am (aD c7))),?_⟩
  rw [show L2.start ["self","figure","place"] [MU w]=[some (MU w),none,none] from rfl]
  nofun
  refine ⟨w,t.aa,dx,_,_,rfl,ob,T.aj,T.aX,fM _ _ _ _ _,?_⟩
  nofun
  refine bb (MQ W.te) ?_
  rw [ax]
  nofun
  refine ⟨st.en.length,rfl,by lia,by lia,eQ (n:=st.en.length) (λ i σ H'=>∃ s1:HW,HwAt t.aa H' w pa ma ea us hv s1/\HwB s1/\s1.en=st.en/\s1.takeG (st.en.length - i) i=st.takeG st.en.length 0/\KpH w pa ma H H'/\∃ v1 v2,σ=[some (MU w),v1,v2]) ⟨st,W,B,rfl,rfl,KpH.refl _ _ _ _,_,_,rfl⟩ ?_ ?_⟩
  ·rintro i σ H1 hi ⟨s1,W1,B1,e1,eG,K1,v1,v2,rfl⟩
   have hi1:i<s1.en.length:=by rw [e1]; exact hi
   obtain ⟨dx1,ob1⟩:=W1.ob
   have ei:(0:Int)+(i:Int)=((i:Nat):Int):=by lia
   nofun
   refine ⟨w,dx1,_,rfl,ob1,iE _ _ _ _ _ (by decide +kernel) (by decide +kernel) (by decide +kernel) (by decide +kernel) (by decide +kernel),?_⟩
   nofun
   refine ⟨w,pa,ma,ea,us,hv,s1,i,by rw [ei]; rfl,W1,B1,hi1,λ H2 W2 kp2=>?_⟩
   have K2:KpH w pa ma H H2:=λ b o e x y z=>kp2 _ _ (K1 b o e x y z) z
   obtain ⟨dx2,ob2⟩:=W2.ob
   have hge:st.en.length - i=(st.en.length - (i+1))+1:=by lia
   rw [hge,HW.takeG] at eG
   nofun
   refine ⟨w,t.aa,dx2,_,_,rfl,ob2,T.aj,T.aX,fM _ _ _ _ _,?_⟩
   nofun
   refine br (MQ W2.te) (v:=MS (s1.en.getD i 0:Nat)) (by rw [ei]; exact aO (by unfold NV; rw [De]; show (s1.en[i]?).map _=_; rw [lj hi1]; rfl)) ?_
   nofun
   refine aY (λ g=>?_) (λ g=>?_)
   ·have hg:s1.mark i<s1.en.getD i 0:=by lia
    rw [if_pos hg] at eG
    have hpl:s1.mark i<s1.ps.length:=Ds hg (B1.mb i hi1).2
    obtain ⟨v,hv1,hv2⟩:=W2.pv.get (p:=s1.mark i) hpl
    nofun
    refine ⟨w,t.aa,dx2,_,_,rfl,ob2,T.aj,T.aA,bQ _ _ _ _ _,?_⟩
    nofun
    refine br (MQ W2.tp) (v:=v) (aO hv1) ?_
    nofun
    refine ⟨w,t.aa,dx2,_,rfl,ob2,T.aj,T.aH,by show 5<1000; decide,?_⟩
    rw [oq]
    have W3:=W2.setW (dx:=dx2) (n:=(s1.marked i).pt) hv2
    have K3:=K2.trans (KpH.upW W2 (o:=.ins t.aa dx2 (hwF pa v ma ea ((s1.marked i).pt:Nat))))
    generalize upd H2 w (.ins t.aa dx2 (hwF pa v ma ea ((s1.marked i).pt:Nat)))=H3 at W3 K3
    obtain ⟨dx3,ob3⟩:=W3.ob
    nofun
    refine ⟨w,t.aa,dx3,_,_,rfl,ob3,T.aj,T.aA,bQ _ _ _ _ _,?_⟩
    nofun
    refine cg W3.tp (j:=s1.mark i) (ci rfl (by rw [W3.pv.1]; exact hpl)) ?_
    have W4:=W3.setP (W3.pv.set (p:=s1.mark i) (v:=.non) (o:=none) rfl)
    have K4:=K3.trans (KpH.upP W3 (o:=.lst (us.set (s1.mark i) .non)))
    generalize upd H3 pa (.lst (us.set (s1.mark i) .non))=H4 at W4 K4
    nofun
    refine ⟨aL (by simp),λ q hq=>?_⟩
    have s5:=(MW H4).new (o:=.tup [MT "take",MS (s1.mark i:Nat)]) hq
    refine k (.ref q) (us.set (s1.mark i) .non) v _ ?_ (K4.trans (KpH.of s5)) ?_
    ·rw [<-eG]
     exact W4.same s5
    ·rw [<-eG]
     exact ⟨q,rfl,ab⟩
   ·have hg:¬ s1.mark i<s1.en.getD i 0:=by lia
    rw [if_neg hg] at eG
    nofun
    exact ⟨s1.marked i,W2,B1.marked hi1,e1,eG,K2,_,_,rfl⟩
  ·rintro σ H1 ⟨s1,W1,B1,e1,eG,K1,v1,v2,rfl⟩
   rw [FT,HW.takeG] at eG
   nofun
   exact k .non us hv H1 (by rw [<-eG]; exact W1) K1 (by rw [<-eG]; exact rfl)
def Ag (C:Addr):Sp:=λ vs H Q _=>∃ (w pa ma ea:Addr) (us:List V) (hv:V) (st:HW) (z:Nat×Nat),vs=[.ref w]/\HwAt C H w pa ma ea us hv st/\HwB st/\st.hd=some z/\z.1<st.en.length/\st.mark z.1<st.ps.length/\
 ∀ (v:V) (us':List V) (hv':V) H',HwAt C H' w pa ma ea us' hv' (st.putG z)->KpH w pa ma H H'->MvV H' v (some (match st.ps.getD (st.mark z.1) none with | none=>Mv.lay (st.mark z.1) | some _=>MY (st.mark z.1)))->Q v H'
theorem fw (T:Tx K mg t):FnOk P w K mg base CX0 3 t.bO t.bM ["self"] (Ag t.aa):=by
 refine T.fQ.okQ sc_HeapWalk_put_held (λ vs H Q E h=>?_) (λ cdv A outer s H vs Q E hr h=>?_)
 ·obtain ⟨w,pa,ma,ea,us,hv,st,z,rfl,_⟩:=h
  rfl
 ·obtain ⟨w,pa,ma,ea,us,hv,st,z,rfl,W,B,hz,hf,hpl,k⟩:=h
  obtain ⟨dx,ob⟩:=W.ob
  have hhv:=W.hh
  rw [hz] at hhv
  obtain ⟨q0,rfl,tq0⟩:=hhv
  refine ⟨_,(ac (au (i:=1) sc_HeapWalk_put_held.nd rfl (Di rfl) (aC (dD (K:=K)) (cE (K:=K) (qv 0)) ag))
   (ac (au (i:=2) sc_HeapWalk_put_held.nd rfl (Di rfl) (ng (qv 0) T.aj T.df (cU T) (hr.mono (by decide)) T.dg aK (al (qv 1) ad)))
   (ac (au (i:=3) sc_HeapWalk_put_held.nd rfl (Di rfl) (aC (bg (K:=K)) (cE (K:=K) (qv 0)) (qv 2)))
   (ac (cJ (cE (K:=K) (qv 0)) (cE (K:=K) (qv 0)) (qv 2))
   (ac (jt (K:=K) (qv 0) (qv 3))
   (ac (kW (K:=K) (cE (K:=K) (qv 0)) (qv 1) ag)
   (ac (rB (K:=K) (qv 0) ag l7)
   (ac (di (aB uD (qv 3) c7 (aG _)) (am (aD (bo (al kh (al (qv 2) ad))))) bP)
   (am (aD (bo (al kh (al (qv 2) ad))))))))))))),?_⟩
  rw [show L2.start ["self","figure","place","there"] [MU w]=[some (MU w),none,none,none] from rfl]
  nofun
  refine ⟨w,t.aa,dx,_,_,rfl,ob,T.aj,T.aH,fL _ _ _ _ _,?_⟩
  nofun
  refine ⟨w,dx,_,rfl,ob,iE _ _ _ _ _ (by decide +kernel) (by decide +kernel) (by decide +kernel) (by decide +kernel) (by decide +kernel),?_⟩
  nofun
  refine ⟨w,pa,ma,ea,us,.ref q0,st,z.1,rfl,W,B,hf,λ H2 W2 kp2=>?_⟩
  have K2:KpH w pa ma H H2:=λ b o e x y z=>kp2 _ _ e z
  obtain ⟨dx2,ob2⟩:=W2.ob
  obtain ⟨v,hv1,hv2⟩:=W2.pv.get (p:=st.mark z.1) hpl
  nofun
  refine ⟨w,t.aa,dx2,_,_,rfl,ob2,T.aj,T.aA,bQ _ _ _ _ _,?_⟩
  nofun
  refine br (MQ W2.tp) (v:=v) (aO hv1) ?_
  nofun
  refine ⟨w,t.aa,dx2,_,_,rfl,ob2,T.aj,T.aH,fL _ _ _ _ _,?_⟩
  nofun
  refine ⟨w,t.aa,dx2,_,_,rfl,ob2,T.aj,T.aA,bQ _ _ _ _ _,?_⟩
  nofun
  refine cg W2.tp (j:=st.mark z.1) (ci rfl (by rw [W2.pv.1]; exact hpl)) ?_
  have hq2:PrV H2 (.ref q0) (some z):=by have:=W2.hh; rw [show (st.marked z.1).hd=some z from hz] at this; exact this
  have W3:=W2.setP (W2.pv.set (p:=st.mark z.1) (v:=.ref q0) (o:=some z) hq2)
  have K3:=K2.trans (KpH.upP W2 (o:=.lst (us.set (st.mark z.1) (.ref q0))))
  have hv3:PrV (upd H2 pa (.lst (us.set (st.mark z.1) (.ref q0)))) v (st.ps.getD (st.mark z.1) none):=hv2.kp W2 (KpH.upP W2)
  generalize upd H2 pa (.lst (us.set (st.mark z.1) (.ref q0)))=H3 at W3 K3 hv3
  obtain ⟨dx3,ob3⟩:=W3.ob
  nofun
  refine ⟨w,t.aa,dx3,_,rfl,ob3,T.aj,T.aH,by show 5<1000; decide,?_⟩
  rw [oq]
  have W4:=W3.setW (dx:=dx3) (n:=st.pt) hv3
  have K4:=K3.trans (KpH.upW W3 (o:=.ins t.aa dx3 (hwF pa v ma ea (st.pt:Nat))))
  generalize eH4:upd H3 w (.ins t.aa dx3 (hwF pa v ma ea (st.pt:Nat)))=H4 at W4 K4
  rw [show upd H3 w (.ins t.aa dx3 (hwF pa v ma ea (({ st.marked z.1 with ps:=(st.marked z.1).ps.set (st.mark z.1) (some z) }:HW).pt:Nat)))=H4 from eH4]
  clear eH4
  obtain ⟨dx4,ob4⟩:=W4.ob
  have hfm:z.1<(st.mks.set z.1 (st.mark z.1)).length:=by rw [Ew,B.ml]; exact hf
  have hfm0:z.1<st.mks.length:=by rw [B.ml]; exact hf
  nofun
  refine ⟨w,t.aa,dx4,_,_,rfl,ob4,T.aj,T.aJ,de _ _ _ _ _,?_⟩
  nofun
  refine ⟨ma,_,_,_,rfl,rfl,MQ W4.tm,by lia,cL (o:=st.mark z.1) (by show (st.mks.set z.1 (st.mark z.1))[z.1]? = _; rw [EH hfm0]),?_⟩
  nofun
  refine ⟨_,_,rfl,rfl,?_⟩
  refine cg W4.tm (ci rfl (by rw [ax]; exact hfm)) ?_
  dsimp only
  have eM:(NV (st.mks.set z.1 (st.mark z.1))).set z.1 (MS ((st.mark z.1:Int)+1))=NV (st.mks.set z.1 (st.mark z.1+1)):=by
   rw [show ((st.mark z.1:Int)+1)=((st.mark z.1+1:Nat):Int) by lia,fy,LS]
  have W5:=W4.setM (st.mks.set z.1 (st.mark z.1+1))
  have K5:=K4.trans (KpH.upM W4 (o:=.lst (NV (st.mks.set z.1 (st.mark z.1+1)))))
  have eH5:upd H4 ma (.lst ((NV (st.mks.set z.1 (st.mark z.1))).set z.1 (MS ((st.mark z.1:Int)+1))))=upd H4 ma (.lst (NV (st.mks.set z.1 (st.mark z.1+1)))):=by rw [eM]
  generalize upd H4 ma (.lst (NV (st.mks.set z.1 (st.mark z.1+1))))=H5 at W5 K5 eH5
  rw [show upd H4 ma (.lst ((NV (st.marked z.1).mks).set z.1 (MS ((st.mark z.1:Int)+1))))=H5 from eH5]
  clear eH5
  obtain ⟨dx5,ob5⟩:=W5.ob
  nofun
  refine ⟨w,t.aa,dx5,_,_,rfl,ob5,T.aj,T.aI,jx _ _ _ _ _,?_⟩
  nofun
  refine ⟨dx5,_,ob5,by show 5<1000; decide,?_⟩
  rw [uQ]
  have W6:=W5.setW (dx:=dx5) (n:=st.pt+1) W5.hh
  have K6:=K5.trans (KpH.upW W5 (o:=.ins t.aa dx5 (hwF pa v ma ea ((st.pt+1:Nat):Int))))
  have eH6:upd H5 w (.ins t.aa dx5 (hwF pa v ma ea ((st.pt:Int)+1)))=upd H5 w (.ins t.aa dx5 (hwF pa v ma ea ((st.pt+1:Nat):Int))):=by rw [show ((st.pt:Int)+1)=((st.pt+1:Nat):Int) by lia]
  have hv6:=W6.hh
  generalize upd H5 w (.ins t.aa dx5 (hwF pa v ma ea ((st.pt+1:Nat):Int)))=H6 at W6 K6 eH6 hv6
  have hv6':PrV H6 v (st.ps.getD (st.mark z.1) none):=hv6
  have k6:∀ (u:V) H',Same H6 H'->MvV H' u (some (match st.ps.getD (st.mark z.1) none with | none=>Mv.lay (st.mark z.1) | some _=>MY (st.mark z.1)))->Q u H':=λ u H' s m=>k u _ _ H' (W6.same s) (K6.trans (KpH.of s)) m
  rw [show upd H5 w _=H6 from eH6]
  clear eH6 W5 W4 W3 W2 k
  cases e:st.ps.getD (st.mark z.1) none with
  | none=>
   rw [e] at hv6' k6
   have hv3:v=.non:=hv6'
   nofun
   rw [decide_eq_true hv3]
   nofun
   refine ⟨aL (by simp),λ q hq=>?_⟩
   exact k6 _ _ ((MW H6).new hq) ⟨q,rfl,ab⟩
  | some y=>
   rw [e] at hv6' k6
   obtain ⟨q1,hv3,_⟩:=hv6'
   nofun
   rw [decide_eq_false (show ¬ v=MV from λ z=>by rw [hv3] at z; cases z)]
   nofun
   refine ⟨aL (by simp),λ q hq=>?_⟩
   exact k6 _ _ ((MW H6).new hq) ⟨q,rfl,ab⟩
def Ai (C:Addr):Sp:=λ vs H Q _=>∃ (w pa ma ea:Addr) (us:List V) (hv:V) (st:HW) (qs:List (Nat×Nat)) (b:Nat),vs=[.ref w]/\HwAt C H w pa ma ea us hv st/\HwOk qs b st/\(∀ q∈qs,q.1<b)/\b<=64/\
 ∀ (v:V) (us':List V) (hv':V) H',HwAt C H' w pa ma ea us' hv' st.step.2->KpH w pa ma H H'->MvV H' v st.step.1->Q v H'
theorem iO (T:Tx K mg t):FnOk P w K mg base CX0 4 t.cZ t.cX ["self"] (Ai t.aa):=by
 refine T.jO.okQ iM (λ vs H Q E h=>?_) (λ cdv A outer s H vs Q E hr h=>?_)
 ·obtain ⟨w,pa,ma,ea,us,hv,st,qs,b,rfl,_⟩:=h
  rfl
 ·obtain ⟨w,pa,ma,ea,us,hv,st,qs,b,rfl,W,O,hq,hb,k⟩:=h
  obtain ⟨dx,ob⟩:=W.ob
  have hhv:=W.hh
  refine ⟨_,(ac (di (aB uD (cE (K:=K) (qv 0)) c7 (aG _)) (am (aD (dN (qv 0) T.aj T.fj (eD T) (hr.mono (by decide)) T.fo aK ))) bP)
   (am (aD (dN (qv 0) T.aj T.fT (fw T) (hr.mono (by decide)) T.fV aK )))),?_⟩
  rw [show L2.start ["self"] [MU w]=[some (MU w)] from rfl]
  nofun
  refine ⟨w,t.aa,dx,_,_,rfl,ob,T.aj,T.aH,fL _ _ _ _ _,?_⟩
  cases e:st.hd with
  | none=>
   have es:st.step=((st.takeG st.en.length 0).1.map Mv.take,(st.takeG st.en.length 0).2):=by unfold HW.step; rw [e]
   rw [es] at k
   rw [e] at hhv
   have hv3:hv=.non:=hhv
   nofun
   rw [decide_eq_true hv3]
   nofun
   refine ⟨w,dx,_,rfl,ob,iE _ _ _ _ _ (by decide +kernel) (by decide +kernel) (by decide +kernel) (by decide +kernel) (by decide +kernel),?_⟩
   exact ⟨w,pa,ma,ea,us,hv,st,rfl,W,O.bd,by rw [O.el]; exact hb,k⟩
  | some z=>
   have es:st.step=(some (match st.ps.getD (st.mark z.1) none with | none=>Mv.lay (st.mark z.1) | some _=>MY (st.mark z.1)),st.putG z):=by first | (unfold HW.step; rw [e]; done) | (unfold HW.step; rw [e]; rfl)
   rw [es] at k
   rw [e] at hhv
   obtain ⟨q1,hv3,_⟩:=hhv
   obtain ⟨h1,h2,_⟩:=ju O hq e
   nofun
   rw [decide_eq_false (show ¬ hv=MV from λ z=>by rw [hv3] at z; cases z)]
   nofun
   refine ⟨w,dx,_,rfl,ob,iE _ _ _ _ _ (by decide +kernel) (by decide +kernel) (by decide +kernel) (by decide +kernel) (by decide +kernel),?_⟩
   exact ⟨w,pa,ma,ea,us,hv,st,z,rfl,W,O.bd,e,by rw [O.el]; exact h1,h2,k⟩
def Aj (C:Addr):Sp:=λ vs H Q _=>∃ (w pa ma ea:Addr) (us:List V) (hv:V) (st:HW),vs=[.ref w]/\HwAt C H w pa ma ea us hv st/\Q (.int (st.pt:Nat)) H
theorem eC (T:Tx K mg t):FnOk P w K mg base CX0 1 t.cY t.cW ["self"] (Aj t.aa):=by
 refine T.jN.okQ iN (λ vs H Q E h=>?_) (λ cdv A outer s H vs Q E hr h=>?_)
 ·obtain ⟨w,pa,ma,ea,us,hv,st,rfl,_⟩:=h
  rfl
 ·obtain ⟨w,pa,ma,ea,us,hv,st,rfl,W,k⟩:=h
  obtain ⟨dx,ob⟩:=W.ob
  refine ⟨_,(am (aD (cE (K:=K) (qv 0)))),?_⟩
  rw [show L2.start ["self"] [MU w]=[some (MU w)] from rfl]
  nofun
  exact ⟨w,t.aa,dx,_,_,rfl,ob,T.aj,T.aI,jx _ _ _ _ _,k⟩
def Ak (C:Addr):Sp:=λ vs H Q _=>∃ (w pa ma ea:Addr) (us:List V) (hv:V) (st:HW),vs=[.ref w]/\HwAt C H w pa ma ea us hv st/\st.ps.length<=200/\∀ (l:Addr) (ys:List V) H',H l=none->Same H H'->H' l=some (.lst ys)->PrsAt H' ys st.ps->Q (.ref l) H'
theorem fe (T:Tx K mg t):FnOk P w K mg base CX0 2 t.dv t.dl ["self"] (Ak t.aa):=by
 refine T.j6.okQ jI (λ vs H Q E h=>?_) (λ cdv A outer s H vs Q E hr h=>?_)
 ·obtain ⟨w,pa,ma,ea,us,hv,st,rfl,_⟩:=h
  rfl
 ·obtain ⟨w,pa,ma,ea,us,hv,st,rfl,W,hn,k⟩:=h
  obtain ⟨dx,ob⟩:=W.ob
  have hul:us.length=st.ps.length:=W.pv.1
  refine ⟨_,(am (aD (bF (N:=["pair"]) (tgs:=["pair"]) (frs:=[]) (ix:=[]) ⟨rfl,by decide +kernel,rfl,by decide +kernel,rfl,rfl,Dv,Dv,rfl⟩ rfl (bc (K:=K) (cE (K:=K) (qv 0))) (λ _ _ _ _=>(ak (i:=0) (by show DW (["pair"]:List Str); decide +kernel) rfl (Di rfl))) (λ _ _ _ _=>(av (jK T) (hr.mono (by decide)) rfl T.kD T.il.kp T.kC aK (al (qv 0) ad)))))),?_⟩
  rw [show L2.start ["self"] [MU w]=[some (MU w)] from rfl]
  nofun
  refine ⟨w,t.aa,dx,_,_,rfl,ob,T.aj,T.aA,bQ _ _ _ _ _,?_⟩
  nofun
  refine ⟨pa,rfl,⟨_,MQ W.tp⟩,bp (a:=pa) (vs:=us) (λ i ys σ H'=>Same H H'/\PrsAt H' ys (st.ps.take i)/\i<=us.length/\∃ v,σ=[v]) (ap (by lia)) (λ i ys σ H' h=>by rw [h.2.1.1,Df]; lia) (λ i ys σ H' h=>MQ (h.1 _ _ W.tp)) ⟨MW _,⟨rfl,λ i v o a=>by simp at a⟩,Du _,none,rfl⟩ ?_ ?_⟩
  ·rintro i ys σ H1 x hx ⟨s1,P1,hi,v,rfl⟩
   have hil:=aR hx
   have hio:i<st.ps.length:=by lia
   have eo:st.ps[i]? = some st.ps[i]:=C4 hio
   have hpx:=(W.pv.2 i x _ hx eo).same s1
   nofun
   refine ⟨x,rfl,hpx.th,λ y H2 s2 e=>?_⟩
   refine MX hil ⟨s1.trans s2,?_,hil,_,rfl⟩
   rw [Dz,eo]
   exact (P1.same s2).snoc ((hpx.same s2).copy e)
  ·rintro ys σ H1 ⟨s1,P1,hi,v,rfl⟩ l hl
   rw [Da (by lia)] at P1
   exact k l ys _ (s1.free hl) (s1.new hl) ab (P1.same ((MW _).new hl))
def ya (C:Addr):Sp:=λ vs H Q _=>∃ (w dx a:Addr) (rs:List Addr) (qs:List (Nat×Nat)) (b:Nat),vs=[.ref w,.ref a,.int (b:Nat)]/\H w=some (.ins C dx [])/\H a=some (.lst (rs.map MU))/\PsT H rs qs/\qs.length<=200/\(∀ q∈qs,q.1<b)/\b<=64/\
 ∀ (pa ma ea:Addr) (us:List V) (H':Hp),H pa=none->H ma=none->H ea=none->HwAt C H' w pa ma ea us .non (hw0 qs b)->(∀ b o,H b=some o->b≠w->H' b=some o)->Q .non H'
theorem lC {qs:List (Nat×Nat)} {z:Nat×Nat} (h:qs[i]? = some z):(qs.map Dc).take (i+1)=(qs.map Dc).take i++[z.1]:=by
 rw [Dz,De,h]; rfl
theorem sL {os:List Nat} (h:i<b):((C9 b).map λ f=>ai os (f+1)).take (i+1)=((C9 b).map λ f=>ai os (f+1)).take i++[ai os (i+1)]:=by
 rw [Dz,De,Eg h]; rfl
theorem fx (T:Tx K mg t):FnOk P w K mg base CX0 2 t.bN t.bL ["self","row","base"] (ya t.aa):=by
 refine T.fP.okQ sc_HeapWalk___init__ (λ vs H Q E h=>?_) (λ cdv A outer s H vs Q E hr h=>?_)
 ·obtain ⟨w,dx,a,rs,qs,b,rfl,_⟩:=h
  rfl
 ·obtain ⟨w,dx,a,rs,qs,b,rfl,hw,ta,R,hn,hqb,hb,k⟩:=h
  have hrl:rs.length=qs.length:=R.1
  refine ⟨_,(ac (au (i:=3) sc_HeapWalk___init__.nd rfl (Di rfl) (av (jJ T) (hr.mono (by decide)) rfl T.lP T.i6.kp T.lH aK (al (bF (N:=["figure","thing"]) (tgs:=["figure","thing"]) (frs:=[]) (ix:=[]) ⟨rfl,by decide +kernel,rfl,by decide +kernel,rfl,rfl,Dv,Dv,rfl⟩ rfl (bc (K:=K) (qv 1)) (λ _ _ _ _=>(c8 (K:=K) (n:=2) rfl (aq (ak (i:=0) (by show DW (["figure","thing"]:List Str); decide +kernel) rfl (Di rfl)) (aq (ak (i:=1) (by show DW (["figure","thing"]:List Str); decide +kernel) rfl (Di rfl)) bE)))) (λ _ _ _ _=>(qv 0))) (al (qv 2) ad))))
   (ac (jt (K:=K) (qv 0) (bF (N:=["figure","thing"]) (tgs:=["figure","thing"]) (frs:=[]) (ix:=[]) ⟨rfl,by decide +kernel,rfl,by decide +kernel,rfl,rfl,Dv,Dv,rfl⟩ rfl (bc (K:=K) (qv 1)) (λ _ _ _ _=>(c8 (K:=K) (n:=2) rfl (aq (ak (i:=0) (by show DW (["figure","thing"]:List Str); decide +kernel) rfl (Di rfl)) (aq (ak (i:=1) (by show DW (["figure","thing"]:List Str); decide +kernel) rfl (Di rfl)) bE)))) (λ _ _ _ _=>(bo (al (qv 0) (al (av (jK T) (hr.mono (by decide)) rfl T.kD T.il.kp T.kC aK (al (qv 1) ad)) ad))))))
   (ac (jt (K:=K) (qv 0) c7)
   (ac (jt (K:=K) (qv 0) (av (gM T) (hr.mono (by decide)) rfl T.ja T.gU.kp T.i7 aK (al (qv 3) ad)))
   (ac (jt (K:=K) (qv 0) (bF (N:=["begin","many"]) (tgs:=["begin","many"]) (frs:=[]) (ix:=[]) ⟨rfl,by decide +kernel,rfl,by decide +kernel,rfl,rfl,Dv,Dv,rfl⟩ rfl (vB (K:=K) rfl T.tV (al (av (gM T) (hr.mono (by decide)) rfl T.ja T.gU.kp T.i7 aK (al (qv 3) ad)) (al (qv 3) ad))) (λ _ _ _ _=>(c8 (K:=K) (n:=2) rfl (aq (ak (i:=0) (by show DW (["begin","many"]:List Str); decide +kernel) rfl (Di rfl)) (aq (ak (i:=1) (by show DW (["begin","many"]:List Str); decide +kernel) rfl (Di rfl)) bE)))) (λ _ _ _ _=>(aU cK (qv 0) (qv 1)))))
   (am (jt (K:=K) (qv 0) ag))))))),?_⟩
  rw [show L2.start ["self","row","base","often"] [MU w,MU a,MS (b:Nat)]=[some (MU w),some (MU a),some (MS (b:Nat)),none] from rfl]
  nofun
  refine ⟨a,rfl,⟨_,MQ ta⟩,bp (a:=a) (vs:=rs.map MU) (λ i ys σ H'=>H'=H/\ys=NV ((qs.map Dc).take i)/\i<=rs.length/\∃ v v2,σ=[v,v2]) (by rw [C6]; exact ap (by lia)) (λ i ys σ H' h=>by rw [h.2.1,ax,Df,C6]; lia) (λ i ys σ H' h=>by rw [h.1]; exact MQ ta) ⟨rfl,rfl,Du _,none,none,rfl⟩ ?_ ?_⟩
  ·rintro i ys σ H1 x hx ⟨rfl,rfl,hi,v,v2,rfl⟩
   have hil:=aR hx
   obtain ⟨q,rfl,hq,_,hir⟩:=aQ hx
   have hiq:i<qs.length:=by lia
   have eq:qs[i]? = some qs[i]:=C4 hiq
   have tq:=R.2 i q _ hq eq
   refine bT tq ?_
   dsimp only [EU]
   nofun
   refine MX hil ⟨rfl,?_,by lia,_,_,rfl⟩
   rw [lC eq,<-cM]
  rintro ys σ H1 ⟨rfl,rfl,hi,v,v2,rfl⟩ f hf
  rw [Da (by rw [C6,C6]; lia)]
  have s2:=(MW H1).new (o:=.lst (NV (qs.map Dc))) hf
  have tf:(upd H1 f (.lst (NV (qs.map Dc)))) f=some (.lst (NV (qs.map Dc))):=ab
  generalize upd H1 f (.lst (NV (qs.map Dc)))=H2 at s2 tf
  nofun
  refine ⟨f,qs.map Dc,b,rfl,tf,λ o ho=>by obtain ⟨q,hq,rfl⟩:=DM.mp ho; exact hqb q hq,by rw [C6]; exact hn,hb,λ oa H3 hoa s3 toa=>?_⟩
  have s03:=s2.trans s3
  have ta3:=s03 _ _ ta
  have R3:=R.same s03
  nofun
  refine ⟨a,rfl,⟨_,MQ ta3⟩,bp (a:=a) (vs:=rs.map MU) (λ i ys σ H'=>Same H3 H'/\PrsAt H' ys ((qs.map some).take i)/\i<=rs.length/\∃ v v2,σ=[v,v2]) (by rw [C6]; exact ap (by lia)) (λ i ys σ H' h=>by rw [h.2.1.1,Df,C6]; lia) (λ i ys σ H' h=>MQ (h.1 _ _ ta3)) ⟨MW _,⟨rfl,λ i v o a=>by simp at a⟩,Du _,none,none,rfl⟩ ?_ ?_⟩
  ·rintro i ys σ H4 x hx ⟨s4,P4,hi,v,v2,rfl⟩
   have hil:=aR hx
   obtain ⟨q,rfl,hq,_,hir⟩:=aQ hx
   have hiq:i<qs.length:=by lia
   have eq:qs[i]? = some qs[i]:=C4 hiq
   have tq:=(R3.same s4).2 i q _ hq eq
   refine bT tq ?_
   dsimp only [EU]
   nofun
   refine ⟨_,rfl,.inl (.inr (.inr (.inl ⟨_,rfl⟩))),λ y H5 s5 e=>?_⟩
   have ey:y=MS ((qs[i].2:Nat):Int):=by
    rcases e with ⟨_,e⟩ | ⟨_,_,_,e,_⟩
    ·exact e
    ·cases e
   subst ey
   nofun
   refine ⟨aL (by simp),λ q2 hq2=>?_⟩
   refine MX hil ⟨(s4.trans s5).new hq2,?_,by lia,_,_,rfl⟩
   rw [Dz,De,eq]
   exact ((P4.same s5).same ((MW _).new hq2)).snoc ⟨q2,rfl,ab⟩
  rintro ys σ H4 ⟨s4,P4,hi,v,v2,rfl⟩ pa hpa
  rw [Da (by rw [C6,C6]; lia)] at P4
  have s5:=(MW H4).new (o:=.lst ys) hpa
  have tpa:(upd H4 pa (.lst ys)) pa=some (.lst ys):=ab
  have P5:=P4.same s5
  generalize upd H4 pa (.lst ys)=H5 at s5 tpa P5
  have s35:=s4.trans s5
  have s05:=s03.trans s35
  have hpa0:H1 pa=none:=(s03.trans s4).free hpa
  have hw5:=s05 _ _ hw
  have toa5:=s35 _ _ toa
  have hwp:w≠pa:=cB hw5 tpa (by intro z; cases z)
  nofun
  refine ⟨w,t.aa,dx,_,rfl,hw5,T.aj,T.aA,by show 0<1000; decide,?_⟩
  have kp6:∀ c o,H5 c=some o->c≠w->(upd H5 w (.ins t.aa dx (bG "pairs" (.ref pa) []))) c=some o:=λ c o e hc=>by rw [af hc]; exact e
  have ob6:(upd H5 w (.ins t.aa dx (bG "pairs" (.ref pa) []))) w=some (.ins t.aa dx (bG "pairs" (.ref pa) [])):=ab
  generalize upd H5 w (.ins t.aa dx (bG "pairs" (.ref pa) []))=H6 at kp6 ob6
  nofun
  refine ⟨w,t.aa,dx,_,rfl,ob6,T.aj,T.aH,by show 1<1000; decide,?_⟩
  have kp7:∀ c o,H5 c=some o->c≠w->(upd H6 w (.ins t.aa dx (bG "held" .non (bG "pairs" (.ref pa) [])))) c=some o:=λ c o e hc=>by rw [af hc]; exact kp6 c o e hc
  have ob7:(upd H6 w (.ins t.aa dx (bG "held" .non (bG "pairs" (.ref pa) [])))) w=some (.ins t.aa dx (bG "held" .non (bG "pairs" (.ref pa) []))):=ab
  generalize upd H6 w (.ins t.aa dx (bG "held" .non (bG "pairs" (.ref pa) [])))=H7 at kp7 ob7
  have hoaw:oa≠w:=cB toa5 hw5 (by intro z; cases z)
  have toa7:=kp7 _ _ toa5 hoaw
  nofun
  refine ⟨oa,cnt (qs.map Dc) b,rfl,toa7,by rw [aS]; exact hb,λ ma H8 hma s8 tma=>?_⟩
  rw [oJ] at tma
  have ob8:=s8 _ _ ob7
  have hmaw:ma≠w:=cB tma ob8 (by intro z; cases z)
  have hF1:=gH "pairs" (MU pa) []
  have hF2':=gH "held" MV (bG "pairs" (MU pa) [])
  have hF2:(bG "held" MV (bG "pairs" (MU pa) [])).length<1000:=by simp at hF1; lia
  have hF3':=gH "marks" (MU ma) (bG "held" MV (bG "pairs" (MU pa) []))
  nofun
  refine ⟨w,t.aa,dx,_,rfl,ob8,T.aj,T.aJ,hF2,?_⟩
  generalize eF:bG "marks" (MU ma) (bG "held" MV (bG "pairs" (MU pa) []))=F3
  rw [eF] at hF3'
  have hF3:F3.length<999:=by simp at hF1; lia
  have kp9:∀ c o,H5 c=some o->c≠w->(upd H8 w (.ins t.aa dx F3)) c=some o:=λ c o e hc=>by rw [af hc]; exact s8 _ _ (kp7 c o e hc)
  have tma9:(upd H8 w (.ins t.aa dx F3)) ma=some (.lst (NV (xU (qs.map Dc) b))):=by rw [af hmaw]; exact tma
  have ob9:(upd H8 w (.ins t.aa dx F3)) w=some (.ins t.aa dx F3):=ab
  have toa9:=kp9 _ _ toa5 hoaw
  generalize upd H8 w (.ins t.aa dx F3)=H9 at kp9 tma9 ob9 toa9
  nofun
  refine ⟨oa,cnt (qs.map Dc) b,rfl,toa9,by rw [aS]; exact hb,λ ba HA hba sA tba=>?_⟩
  rw [oJ] at tba
  have toaA:=sA _ _ toa9
  nofun
  refine ⟨ba,oa,rfl,⟨_,MQ tba⟩,⟨_,MQ toaA⟩,iS (n:=b) (λ i ys σ H'=>Same HA H'/\ys=NV (((C9 b).map λ f=>ai (qs.map Dc) (f+1)).take i)/\i<=b/\∃ v w,σ=[v,w]) (ap (by lia)) (λ i ys σ H' h=>by rw [h.2.1,ax,Df,C6,DR]; have:=h.2.2.1; lia) ⟨MW _,rfl,Du _,none,none,rfl⟩ ?_ ?_ ?_ ?_⟩
  ·rintro i ys σ HB hi ⟨sB,_⟩
   exact ⟨_,_,MS (ai (qs.map Dc) i:Nat),MS ((qs.map Dc).count i:Nat),MQ (sB _ _ tba),MQ (sB _ _ toaA),cL (sv hi),cL (bU hi)⟩
  ·rintro ys σ HB ⟨sB,_⟩
   exact ⟨_,_,MQ (sB _ _ tba),MQ (sB _ _ toaA),.inl (by rw [ax,xV]; exact C8 _)⟩
  ·rintro i x ys σ HB HC hi ⟨sB,rfl,_,v,w,rfl⟩ ⟨p,x1,y1,rfl,hp,rfl,hx1,hy1⟩
   have hx2:=hx1 _ (MQ (sB _ _ tba))
   have hy2:=hy1 _ (MQ (sB _ _ toaA))
   rw [cL (sv hi)] at hx2
   rw [cL (bU hi)] at hy2
   cases hx2; cases hy2
   refine bT ab ?_
   dsimp only [EU]
   nofun
   refine MX hi ⟨sB.new hp,?_,hi,_,_,rfl⟩
   rw [sL hi,<-cM,aM]
   congr 2
  rintro ys σ HB ⟨sB,rfl,_,v,w',rfl⟩ ea hea
  rw [Da (by simp)]
  have sC:=sB.new (o:=.lst (NV ((C9 b).map λ f=>ai (qs.map Dc) (f+1)))) hea
  have tea:(upd HB ea (.lst (NV ((C9 b).map λ f=>ai (qs.map Dc) (f+1))))) ea=some (.lst (NV ((C9 b).map λ f=>ai (qs.map Dc) (f+1)))):=ab
  generalize upd HB ea (.lst (NV ((C9 b).map λ f=>ai (qs.map Dc) (f+1))))=HC at sC tea
  have s9C:=sA.trans sC
  have obC:=s9C _ _ ob9
  have heaw:ea≠w:=cB tea obC (by intro z; cases z)
  nofun
  refine ⟨w,t.aa,dx,_,rfl,obC,T.aj,T.aX,by lia,?_⟩
  generalize eF4:bG "ends" (MU ea) F3=F4
  have hF4:F4.length<1000:=by have:=gH "ends" (MU ea) F3; rw [eF4] at this; lia
  have obD:(upd HC w (.ins t.aa dx F4)) w=some (.ins t.aa dx F4):=ab
  have kpD:∀ c o,HC c=some o->c≠w->(upd HC w (.ins t.aa dx F4)) c=some o:=λ c o e hc=>by rw [af hc]; exact e
  generalize upd HC w (.ins t.aa dx F4)=HD at obD kpD
  nofun
  refine ⟨w,t.aa,dx,_,rfl,obD,T.aj,T.aI,hF4,?_⟩
  rw [<-eF4,<-eF,xL]
  have kpE:∀ c o,H5 c=some o->c≠w->(upd HD w (.ins t.aa dx (hwF pa .non ma ea 0))) c=some o:=λ c o e hc=>by rw [af hc]; exact kpD _ _ (s9C _ _ (kp9 c o e hc)) hc
  have hmaC:=s9C _ _ tma9
  refine k pa ma ea ys _ hpa0 ?_ ?_ ⟨⟨dx,ab⟩,kpE _ _ tpa (DX hwp),⟨P5.1,λ i v o x y=>?_⟩,rfl,by rw [af hmaw]; exact kpD _ _ hmaC hmaw,by rw [af heaw]; exact kpD _ _ tea heaw,?_,?_,?_⟩ λ c o e hc=>kpE c o (s05 _ _ e) hc
  ·cases z:H1 ma with
   | none=>rfl
   | some o=>
    rw [kp7 _ _ (s05 _ _ z) hmaw] at hma
    cases hma
  ·cases z:H1 ea with
   | none=>rfl
   | some o=>
    rw [sB _ _ (sA _ _ (kp9 _ _ (s05 _ _ z) heaw))] at hea
    cases hea
  ·have z:=P5.2 i v o x y
   cases o with
   | none=>exact z
   | some y=>
    obtain ⟨q,e1,e2⟩:=z
    exact ⟨q,e1,kpE _ _ e2 (cB e2 hw5 (by intro z; cases z))⟩
  ·exact λ z=>by rw [<-z,kp7 _ _ tpa (DX hwp)] at hma; cases hma
  ·exact λ z=>by rw [<-z,sB _ _ (sA _ _ (kp9 _ _ tpa (DX hwp)))] at hea; cases hea
  ·exact λ z=>by rw [<-z,sB _ _ (sA _ _ tma9)] at hea; cases hea
def BT:Sp:=λ vs H Q _=>∃ (a:Addr) (os:List Nat) (b:Nat),vs=[.ref a,.int b]/\H a=some (.lst (NV os))/\(∀ o∈os,o<b)/\os.length<=200/\b<=64/\∀ (l:Addr) (ob:List Nat) H',H l=none->Same H H'->H' l=some (.lst (NV ob))->ByF os ob->Q (.ref l) H'
theorem getD_some {os:List Nat} {o:Nat} (h:os[i]? = some o):os.getD i 0=o:=by rw [C5,h]; rfl
theorem gP (T:Tx K mg t):FnOk P w K mg base CX0 2 t.cx t.cv ["row","base"] BT:=by
 refine T.dH.okQ sc_order_by_figure (λ vs H Q E h=>?_) (λ cdv A outer s H vs Q E hr h=>?_)
 ·obtain ⟨a,os,b,rfl,_⟩:=h
  rfl
 ·obtain ⟨a,os,b,rfl,ta,hob,hol,hb,k⟩:=h
  refine ⟨_,(ac (au (i:=2) sc_order_by_figure.nd rfl (Di rfl) (av (gM T) (hr.mono (by decide)) rfl T.ja T.gU.kp T.i7 aK (al (av (jJ T) (hr.mono (by decide)) rfl T.lP T.i6.kp T.lH aK (al (qv 0) (al (qv 1) ad))) ad)))
   (ac (au (i:=3) sc_order_by_figure.nd rfl (Di rfl) (aU zC (bC (al ag ad)) (ay (bt (K:=K)) (by rfl) T.cA bx (al (qv 0) ad))))
   (ac (dC D4 rfl (jm (K:=K) rfl T.cy (al (qv 0) ad)) (c8 (K:=K) (n:=2) rfl (aq (ak (i:=4) sc_order_by_figure.nd rfl (Di rfl)) (aq (ak (i:=5) sc_order_by_figure.nd rfl (Di rfl)) bE))) (ac (cJ (qv 4) (qv 3) (aC (bg (K:=K)) (qv 2) (qv 5)))
   (am (kW (K:=K) (qv 2) (qv 5) ag))))
   (am (aD (qv 3)))))),?_⟩
  rw [show L2.start ["row","base","marks","order","place","figure"] [MU a,MS b]=[some (MU a),some (MS b),none,none,none,none] from rfl]
  nofun
  refine ⟨a,os,b,rfl,ta,hob,by lia,hb,λ c H1 hc0 s1 tc=>?_⟩
  nofun
  refine ⟨c,cnt os b,rfl,tc,by rw [aS]; exact hb,λ m H2 hm0 s2 tm=>?_⟩
  have hmn:H m=none:=s1.free hm0
  have s12:=s1.trans s2
  nofun
  refine ⟨aL (by simp),λ q0 hq0=>?_⟩
  have s3:=s12.new (o:=.lst [MS 0]) hq0
  have tm3:(upd H2 q0 (.lst [MS 0])) m=some (.lst (NV (ph (cnt os b)))):=by rw [af (ae tm hq0)]; exact tm
  have t0:(upd H2 q0 (.lst [MS 0])) q0=some (.lst [MS 0]):=ab
  generalize upd H2 q0 (.lst [MS 0])=H3 at s3 tm3 t0
  nofun
  refine bb (MQ (s3 _ _ ta)) ?_
  rw [ax]
  refine ⟨q0,_,_,rfl,rfl,t0,by lia,by lia,aL (by simp; lia),λ d hd=>?_⟩
  have efl:(DC ((os.length:Nat):Int).toNat [MS 0]).flatten=NV (DC os.length 0):=by
   show (DC os.length [MS 0]).flatten=_
   rw [GX,NV,List.map_replicate]; rfl
  rw [efl]
  have hdn:H d=none:=s3.free hd
  have hmd:m≠d:=ae tm3 hd
  have s4:=s3.new (o:=.lst (NV (DC os.length 0))) hd
  have tm4:(upd H3 d (.lst (NV (DC os.length 0)))) m=some (.lst (NV (ph (cnt os b)))):=by rw [af hmd]; exact tm3
  have td:(upd H3 d (.lst (NV (DC os.length 0)))) d=some (.lst (NV (DC os.length 0))):=ab
  generalize upd H3 d (.lst (NV (DC os.length 0)))=H4 at s4 tm4 td
  nofun
  refine ⟨a,rfl,⟨_,MQ (s4 _ _ ta)⟩,qP (n:=os.length) (λ i σ H'=>Same H H'/\(∃ ms ds:List Nat,H' m=some (.lst (NV ms))/\H' d=some (.lst (NV ds))/\ms.length=b/\ds.length=os.length/\(∀ f,f<b->ms[f]? = some (ai os f+(os.take i).count f))/\∀ j,j<i->ds[eE os j]? = some j)/\∃ v w,σ=[some (MU a),some (MS b),some (MU m),some (MU d),v,w]) ⟨s4,⟨_,_,tm4,td,by rw [iV,aS],by simp,λ f hf=>?_,λ j h=>absurd h (EF _)⟩,none,none,rfl⟩ ?_ ?_ ?_ ?_⟩
  ·rw [iW (by rw [aS]; exact hf),bh os b f (by lia)]; rfl
  ·rintro i σ H5 hi ⟨s5,_⟩
   exact ⟨_,_,MQ (s5 _ _ ta),cL (o:=os[i]) (by simp [hi])⟩
  ·rintro σ H5 ⟨s5,_⟩
   exact ⟨_,MQ (s5 _ _ ta),by rw [ax]⟩
  ·rintro i x σ H5 H6 hi ⟨s5,⟨ms,ds,tm5,td5,hml,hdl,hms,hds⟩,v,w,rfl⟩ ⟨q,x1,rfl,hq,rfl,hx1⟩
   have ei:os[i]? = some os[i]:=by simp [hi]
   have hx2:=hx1 _ (MQ (s5 _ _ ta))
   rw [cL ei] at hx2
   obtain rfl:=D7 hx2
   have hfb:=hob os[i] (Dl hi)
   have eg:=getD_some ei
   have esp:eE os i=ai os os[i]+(os.take i).count os[i]:=by unfold eE; rw [eg]
   have hsl:=m5 hi
   have hcs:=cN hi
   rw [eg] at hcs
   generalize os[i]=f at *
   refine bT ab ?_
   dsimp only [EU]
   have s6:=s5.new (o:=.tup [MS (i:Nat),MS (f:Nat)]) hq
   have tm6:(upd H5 q (.tup [MS (i:Nat),MS (f:Nat)])) m=some (.lst (NV ms)):=by rw [af (ae tm5 hq)]; exact tm5
   have td6:(upd H5 q (.tup [MS (i:Nat),MS (f:Nat)])) d=some (.lst (NV ds)):=by rw [af (ae td5 hq)]; exact td5
   generalize upd H5 q (.tup [MS (i:Nat),MS (f:Nat)])=H6 at s6 tm6 td6
   nofun
   refine br (MQ tm6) (jX rfl (hms f hfb)) ?_
   rw [<-esp]
   nofun
   refine cg td6 (ci rfl (by rw [ax,hdl]; exact hsl)) ?_
   rw [fy]
   have s7:=s6.own (o:=.lst (NV (ds.set (eE os i) i))) hdn
   have tm7:(upd H6 d (.lst (NV (ds.set (eE os i) i)))) m=some (.lst (NV ms)):=by rw [af hmd]; exact tm6
   have td7:(upd H6 d (.lst (NV (ds.set (eE os i) i)))) d=some (.lst (NV (ds.set (eE os i) i))):=ab
   generalize upd H6 d (.lst (NV (ds.set (eE os i) i)))=H7 at s7 tm7 td7
   nofun
   refine ⟨m,_,_,_,rfl,rfl,MQ tm7,by lia,cL (hms f hfb),?_⟩
   nofun
   refine ⟨_,_,rfl,rfl,?_⟩
   refine cg tm7 (ci rfl (by rw [ax,hml]; exact hfb)) ?_
   refine ⟨s7.own hmn,⟨ms.set f (ai os f+(os.take i).count f+1),ds.set (eE os i) i,?_,by rw [af (DX hmd)]; exact td7,by simpa using hml,by simpa using hdl,λ g hg=>?_,λ j hj=>?_⟩,_,_,rfl⟩
   ·rw [ab]
    show some (HO.lst ((NV ms).set f (MS ((ai os f+(os.take i).count f+1:Nat):Int))))=_
    rw [fy]
   ·rw [Ii]
    by_cases e:f=g
    ·subst e
     rw [if_pos rfl,if_pos (by lia),hcs]; rfl
    ·rw [if_neg e,hms g hg,Dz,ei,Fj]
     have:KC g [f]=0:=GG.mpr (by simp; exact λ z=>e z.symm)
     simp only [Lc,this,FS]
   ·rw [Ii]
    by_cases e:eE os i=eE os j
    ·have hij:=nS hi (by lia) e
     rw [if_pos e,if_pos (by lia),hij]
    ·rw [if_neg e]
     have:j≠i:=λ z=>e (by rw [z])
     exact hds j (by lia)
  ·rintro σ H5 ⟨s5,⟨ms,ds,tm5,td5,hml,hdl,hms,hds⟩,v,w,rfl⟩
   nofun
   exact k d ds H5 hdn s5 td5 ⟨hdl,hds⟩
def RowsS (H:Hp) (ps:List Addr) (rss:List (List Nat)):Prop:=ps.length=rss.length/\∀ (i:Nat) p r,ps[i]? = some p->rss[i]? = some r->H p=some (.lst (NV r))\/H p=some (.tup (NV r))
theorem RowsS.same {H:Hp} {ps:List Addr} {rss:List (List Nat)} (h:RowsS H ps rss) (e:Same H H1):RowsS H1 ps rss:=⟨h.1,λ i p z a c=>(h.2 i p z a c).elim (λ h=>.inl (e _ _ h)) (λ h=>.inr (e _ _ h))⟩
theorem RowsT.toS {H:Hp} {ps:List Addr} {rss:List (List Nat)} (h:RowsT H ps rss):RowsS H ps rss:=⟨h.1,λ i p z a c=>.inr (h.2 i p z a c)⟩
theorem LsAt.toS {H:Hp} {ps:List Addr} {rss:List (List Nat)} (h:LsAt H ps rss):RowsS H ps rss:=⟨h.1,λ i p z a c=>.inl (h.2 i p z a c)⟩
def yb:Sp:=λ vs H Q _=>∃ (a:Addr) (ps:List Addr) (rss:List (List Nat)) (w:Nat),vs=[.ref a]/\(H a=some (.lst (ps.map MU))\/H a=some (.tup (ps.map MU)))/\RowsS H ps rss/\(∀ r∈rss,r.length=w)/\Q (.int ((if rss=[] then 0 else w:Nat):Int)) H
theorem jL (T:Tx K mg t):FnOk P w K mg base CX0 1 t.dw t.dq ["rows"] yb:=by
 refine T.fE.okQ jH (λ vs H Q E h=>?_) (λ cdv A outer s H vs Q E hr h=>?_)
 ·obtain ⟨a,ps,rss,w,rfl,_⟩:=h
  rfl
 ·obtain ⟨a,ps,rss,w,rfl,hta,hR,hw,k⟩:=h
  have hl:=hR.1
  rcases hta with ta | ta
  ·refine ⟨_,(ac (di (vt (kP (K:=K) (qv 0))) (am (aD ag)) bP)
   (am (aD (ay (bt (K:=K)) (by rfl) T.cA bx (al (aC (bg (K:=K)) (qv 0) ag) ad))))),?_⟩
   rw [show L2.start ["rows"] [MU a]=[some (MU a)] from rfl]
   nofun
   refine ⟨_,Cn (MQ ta),?_⟩
   cases ps with
   | nil=>
    have:rss=[]:=Eo.mp hl.symm
    rw [if_pos this] at k
    nofun
    exact k
   | cons p r=>
    have hne:rss≠[]:=λ z=>by rw [z] at hl; simp at hl
    rw [if_neg hne] at k
    have h0:0<rss.length:=GB.mpr hne
    have hz:=hR.2 0 p rss[0] rfl (C4 h0)
    have hzl:(NV rss[0]).length=w:=by rw [ax]; exact hw _ (Dl h0)
    refine eU ?_
    nofun
    refine br (MQ ta) (v:=MU p) (aO (j:=0) rfl) ?_
    nofun
    refine ⟨p,_,rfl,hz.elim (λ h=>.inl (MQ h)) (λ h=>.inr (MR h)),?_⟩
    rw [hzl]
    nofun
    exact k
  ·refine ⟨_,(ac (di (vt (kP (K:=K) (qv 0))) (am (aD ag)) bP)
   (am (aD (ay (bt (K:=K)) (by rfl) T.cA bx (al (aC (dD (K:=K)) (qv 0) ag) ad))))),?_⟩
   rw [show L2.start ["rows"] [MU a]=[some (MU a)] from rfl]
   nofun
   refine ⟨_,CT (MR ta),?_⟩
   cases ps with
   | nil=>
    have:rss=[]:=Eo.mp hl.symm
    rw [if_pos this] at k
    nofun
    exact k
   | cons p r=>
    have hne:rss≠[]:=λ z=>by rw [z] at hl; simp at hl
    rw [if_neg hne] at k
    have h0:0<rss.length:=GB.mpr hne
    have hz:=hR.2 0 p rss[0] rfl (C4 h0)
    have hzl:(NV rss[0]).length=w:=by rw [ax]; exact hw _ (Dl h0)
    refine eU ?_
    nofun
    refine gr (MR ta) (v:=MU p) (aO (j:=0) rfl) ?_
    nofun
    refine ⟨p,_,rfl,hz.elim (λ h=>.inl (MQ h)) (λ h=>.inr (MR h)),?_⟩
    rw [hzl]
    nofun
    exact k
def yc:Sp:=λ vs H Q _=>∃ (f c:Nat) (a:Addr) (cs:List Nat),vs=[.int f,.ref a,.int c]/\H a=some (.lst (NV cs))/\cs.length<=64/\∀ (l:Addr) (qs:List Addr) H',H l=none->Same H H'->H' l=some (.lst (qs.map MU))->TrAt H' qs (aF f cs c)->Q (.ref l) H'
theorem nB {cs:List Nat} (h:i<cs.length):(aF f cs c).take (i+1)=(aF f cs c).take i++[(f+(cs.take i).sum,f+(cs.take i).sum+cs.getD i 0,c)]:=by
 unfold aF
 rw [Dz,De,Eg h]; rfl
theorem kz (f c:Nat) (cs:List Nat):(aF f cs c).length=cs.length:=by unfold aF; simp
theorem nC (T:Tx K mg t):FnOk P w K mg base CX0 2 t.iA t.iu ["first","often","column"] yc:=by
 refine T.kB.okQ nA (λ vs H Q E h=>?_) (λ cdv A outer s H vs Q E hr h=>?_)
 ·obtain ⟨f,c,a,cs,rfl,_⟩:=h
  rfl
 ·obtain ⟨f,c,a,cs,rfl,ta,hcl,k⟩:=h
  refine ⟨_,(am (aD (bF (N:=["begin","many","first","column"]) (tgs:=["begin","many"]) (frs:=["first","column"]) (ix:=[0,2]) ⟨rfl,by decide +kernel,rfl,by decide +kernel,rfl,rfl,⟨⟨rfl,rfl,_,rfl,rfl⟩,⟨rfl,rfl,_,rfl,rfl⟩,Dv⟩,⟨rfl,rfl,Dv⟩,rfl⟩ rfl (vB (K:=K) rfl T.tV (al (av (gM T) (hr.mono (by decide)) rfl T.ja T.gU.kp T.i7 aK (al (qv 1) ad)) (al (qv 1) ad))) (λ _ _ _ _=>(c8 (K:=K) (n:=2) rfl (aq (ak (i:=0) (by show DW (["begin","many","first","column"]:List Str); decide +kernel) rfl (Di rfl)) (aq (ak (i:=1) (by show DW (["begin","many","first","column"]:List Str); decide +kernel) rfl (Di rfl)) bE)))) (λ _ _ _ _=>(bo (al (aU cK (qv 2) (qv 0)) (al (aU cK (aU cK (qv 2) (qv 0)) (qv 1)) (al (qv 3) ad)))))))),?_⟩
  rw [show L2.start ["first","often","column"] [MS f,MU a,MS c]=[some (MS f),some (MU a),some (MS c)] from rfl]
  nofun
  refine ⟨a,cs,rfl,ta,hcl,λ d H1 hd s1 td=>?_⟩
  have ta1:=s1 _ _ ta
  nofun
  refine ⟨d,a,rfl,⟨_,MQ td⟩,⟨_,MQ ta1⟩,iS (n:=cs.length) (λ i ys σ H'=>Same H1 H'/\(∃ qs:List Addr,ys=qs.map MU/\qs.length=i/\TrAt H' qs ((aF f cs c).take i))/\∃ v w,σ=[v,w,some (MS f),some (MS c)]) (ap (by lia)) (λ i ys σ H' h=>by obtain ⟨_,⟨qs,rfl,e,_⟩,_⟩:=h; rw [C6,e]) ⟨MW _,⟨[],rfl,rfl,rfl,λ i q s h=>by simp at h⟩,none,none,rfl⟩ ?_ ?_ ?_ ?_⟩
  ·rintro i ys σ H2 hi ⟨s2,_⟩
   exact ⟨_,_,MS ((cs.take i).sum:Nat),MS (cs[i]:Nat),MQ (s2 _ _ td),MQ (s2 _ _ ta1),cL (iW hi),cL (by simp [hi])⟩
  ·rintro ys σ H2 ⟨s2,_⟩
   exact ⟨_,_,MQ (s2 _ _ td),MQ (s2 _ _ ta1),.inl (by rw [ax,iV]; exact C8 _)⟩
  ·rintro i x ys σ H2 H3 hi ⟨s2,⟨qs,rfl,hql,hQ⟩,v,w,rfl⟩ ⟨p,x1,y1,rfl,hp,rfl,hx1,hy1⟩
   have hx2:=hx1 _ (MQ (s2 _ _ td))
   have hy2:=hy1 _ (MQ (s2 _ _ ta1))
   rw [cL (iW hi)] at hx2
   rw [cL (o:=cs[i]) (by simp [hi])] at hy2
   obtain rfl:=D7 hx2
   obtain rfl:=D7 hy2
   refine bT ab ?_
   dsimp only [EU]
   have s3:=s2.new (o:=.tup [MS ((cs.take i).sum:Nat),MS (cs[i]:Nat)]) hp
   have Q3:=hQ.same ((MW H2).new (o:=.tup [MS ((cs.take i).sum:Nat),MS (cs[i]:Nat)]) hp)
   generalize upd H2 p (.tup [MS ((cs.take i).sum:Nat),MS (cs[i]:Nat)])=H3 at s3 Q3
   have e1:(f:Int)+((cs.take i).sum:Nat)=((f+(cs.take i).sum:Nat):Int):=by lia
   have eg:cs.getD i 0=cs[i]:=by rw [C5,C4 hi]; rfl
   have e2:((f+(cs.take i).sum:Nat):Int)+(cs[i]:Nat)=((f+(cs.take i).sum+cs[i]:Nat):Int):=by lia
   nofun
   rw [e1,e2]
   refine ⟨aL (by simp),λ t ht=>?_⟩
   refine MX hi ⟨s3.new ht,⟨qs++[t],by rw [Dr]; rfl,by simp [hql],?_⟩,_,_,rfl⟩
   rw [nB hi,eg]
   exact (Q3.same ((MW _).new ht)).snoc ab
  ·rintro ys σ H2 ⟨s2,⟨qs,rfl,hql,hQ⟩,v,w,rfl⟩ l hl
   rw [Da (by rw [kz]; exact C8 _)] at hQ
   exact k l qs _ (s1.free (s2.free hl)) ((s1.trans s2).new hl) ab (hQ.same ((MW H2).new hl))
def u7:Sp:=λ vs H Q _=>∃ (a:Addr) (ps:List Addr) (rss:List (List Nat)) (w b:Nat),vs=[.ref a,.int b]/\H a=some (.lst (ps.map MU))/\RowsS H ps rss/\Good rss w b/\rss.length<=200/\w<=120/\b<=64/\
 ∀ (t o st:Addr) (zs:List Addr) (os:List Nat) (sts:List ce) H',Fst rss (if rss=[] then 0 else w) os sts []->sts.length<=200->H' t=some (.tup [.ref o,.ref st])->H' o=some (.lst (NV os))->os.Perm (C9 rss.length)->os.Pairwise (Rk rss 0)->H' st=some (.lst (zs.map MU))->TrAt H' zs sts->o≠st->H t=none->H o=none->H st=none->Same H H'->Q (.ref t) H'
theorem gQ (T:Tx K mg t):FnOk P w K mg base CX0 3 t.fv t.ft ["rows","base"] u7:=by
 refine T.fg.okQ sc_from_first (λ vs H Q E h=>?_) (λ cdv A outer s H vs Q E hr h=>?_)
 ·obtain ⟨a,ps,rss,w,b,rfl,_⟩:=h
  rfl
 ·obtain ⟨a,ps,rss,w,b,rfl,hta,hR,hG,hn,hw,hb,k⟩:=h
  have hpl:ps.length=rss.length:=hR.1
  have hwl:∀ r∈rss,r.length=w:=λ r hr=>(hG r hr).1
  have ta:=hta
  ·refine ⟨_,(ac (au (i:=2) sc_from_first.nd rfl (Di rfl) (uC rfl rfl T.gZ rfl T.c6 (al (ay (bt (K:=K)) (by rfl) T.cA bx (al (qv 0) ad)) ad)))
   (ac (au (i:=3) sc_from_first.nd rfl (Di rfl) (bC ad))
   (ac (au (i:=4) sc_from_first.nd rfl (Di rfl) (av (jL T) (hr.mono (by decide)) rfl T.j8 T.fE.kp T.j7 aK (al (qv 0) ad)))
   (ac (au (i:=5) sc_from_first.nd rfl (Di rfl) (bC (al (bo (al ag (al (ay (bt (K:=K)) (by rfl) T.cA bx (al (qv 0) ad)) (al ag ad)))) ad)))
   (ac (dL D4 (kP (K:=K) (qv 5)) (ac (jn (l8 (K:=K) (qv 5)) (c8 (K:=K) (n:=3) rfl (aq (ak (i:=6) sc_from_first.nd rfl (Di rfl)) (aq (ak (i:=7) sc_from_first.nd rfl (Di rfl)) (aq (ak (i:=8) sc_from_first.nd rfl (FE rfl)) bE)))))
   (ac (di (QW.qt (xj (aB vw (aU xl (qv 7) (qv 6)) ag (aG _)) (vv (aB uz (qv 8) (qv 4) (aG _))))) (am xA) bP)
   (ac (au (i:=9) sc_from_first.nd rfl (FE rfl) (dJ (qL (K:=K)) (qv 2) (cD (qv 6)) (cD (qv 7))))
   (ac (kR (i:=10) (N:=["place","rows","column"]) (tgs:=["place"]) (frs:=["rows","column"]) (ix:=[0,8])  sc_from_first.nd rfl (Di rfl) ⟨rfl,by decide +kernel,rfl,by decide +kernel,rfl,rfl,⟨⟨rfl,rfl,_,rfl,rfl⟩,⟨rfl,rfl,_,rfl,rfl⟩,Dv⟩,⟨rfl,rfl,Dv⟩,rfl⟩ rfl (bc (K:=K) (qv 9)) (λ _ _ _ _=>(ak (i:=0) (by show DW (["place","rows","column"]:List Str); decide +kernel) rfl (Di rfl))) (λ _ _ _ _=>(aC (BK (K:=K)) (aC (bg (K:=K)) (qv 1) (qv 0)) (qv 2))))
   (ac (au (i:=11) sc_from_first.nd rfl (Di rfl) (av (jJ T) (hr.mono (by decide)) rfl T.lP T.i6.kp T.lH aK (al (qv 10) (al (qv 1) ad))))
   (ac (di (l6 (av (mK T) (hr.mono (by decide)) rfl T.nI T.jP.kp T.nF aK (al (qv 11) ad))) (ac (rg (bF (N:=["at","stretch"]) (tgs:=["at"]) (frs:=["stretch"]) (ix:=[9]) ⟨rfl,by decide +kernel,rfl,by decide +kernel,rfl,rfl,⟨⟨rfl,rfl,_,rfl,rfl⟩,Dv⟩,⟨rfl,Dv⟩,rfl⟩ rfl (bc (K:=K) (av (gP T) (hr.mono (by decide)) rfl T.iB T.dH.kp T.ip aK (al (qv 10) (al (qv 1) ad)))) (λ _ _ _ _=>(ak (i:=0) (by show DW (["at","stretch"]:List Str); decide +kernel) rfl (Di rfl))) (λ _ _ _ _=>(aC (bg (K:=K)) (qv 1) (qv 0)))) (qv 2) (qv 6) (qv 7))
   (am (eV (dA (K:=K) (qv 3) (al (bo (al (qv 6) (al (qv 7) (al (qv 8) ad)))) ad))))) bP)
   (am (eV (qU (K:=K) (qv 5) (al (zF (K:=K) (av (nC T) (hr.mono (by decide)) rfl T.pT T.kB.kp T.pR aK (al (qv 6) (al (qv 11) (al (aU cK (qv 8) ag) ad))))) ad)))))))))))
   (am (aD (bo (al (qv 2) (al (qv 3) ad)))))))))),?_⟩
   rw [show L2.start ["rows","base","order","steps","columns","waiting","first","last","column","stretch","row","often"] [MU a,MS b]=[some (MU a),some (MS b),none,none,none,none,none,none,none,none,none,none] from rfl]
   nofun
   refine bb (MQ ta) ?_
   rw [C6,hpl]
   nofun
   refine ⟨rss.length,rfl,by lia,λ o ho=>?_⟩
   rw [uE]
   have er:((C9 rss.length).map λ i=>0+i)=C9 rss.length:=by simp
   rw [er]
   have s1:=(MW H).new (o:=.lst (NV (C9 rss.length))) ho
   have to0:(upd H o (.lst (NV (C9 rss.length)))) o=some (.lst (NV (C9 rss.length))):=ab
   generalize upd H o (.lst (NV (C9 rss.length)))=H1 at s1 to0
   nofun
   refine ⟨aL (by simp),λ st hst=>?_⟩
   have hstn:H st=none:=s1.free hst
   have h0s:o≠st:=ae to0 hst
   have s2:=s1.new (o:=.lst []) hst
   have to2:(upd H1 st (.lst [])) o=some (.lst (NV (C9 rss.length))):=by rw [af h0s]; exact to0
   have tst:(upd H1 st (.lst [])) st=some (.lst []):=ab
   generalize upd H1 st (.lst [])=H2 at s2 to2 tst
   nofun
   refine ⟨a,ps,rss,w,rfl,.inl (s2 _ _ ta),hR.same s2,hwl,?_⟩
   have hC:∀ r∈rss,r.length=(if rss=[] then 0 else w):=λ r hr=>by rw [if_neg (λ z=>by rw [z] at hr; cases hr)]; exact hwl r hr
   have hCw:(if rss=[] then 0 else w)<=w:=by split<;>lia
   generalize (if rss=[] then 0 else w)=C at hC hCw k
   nofun
   refine bb (MQ (s2 _ _ ta)) ?_
   rw [C6,hpl]
   nofun
   refine ⟨aL (by simp),λ t0 ht0=>?_⟩
   have s3:=s2.new (o:=.tup [MS 0,MS (rss.length:Nat),MS 0]) ht0
   have to3:(upd H2 t0 (.tup [MS 0,MS (rss.length:Nat),MS 0])) o=some (.lst (NV (C9 rss.length))):=by rw [af (ae to2 ht0)]; exact to2
   have ts3:(upd H2 t0 (.tup [MS 0,MS (rss.length:Nat),MS 0])) st=some (.lst []):=by rw [af (ae tst ht0)]; exact tst
   have tt0:(upd H2 t0 (.tup [MS 0,MS (rss.length:Nat),MS 0])) t0=some (.tup [MS ((0:Nat):Int),MS (rss.length:Nat),MS ((0:Nat):Int)]):=ab
   generalize upd H2 t0 (.tup [MS 0,MS (rss.length:Nat),MS 0])=H3 at s3 to3 ts3 tt0
   nofun
   refine ⟨aL (by simp),λ wl hwl0=>?_⟩
   have hwn:H wl=none:=s3.free hwl0
   have how:o≠wl:=ae to3 hwl0
   have hsw:st≠wl:=ae ts3 hwl0
   have s4:=s3.new (o:=.lst [MU t0]) hwl0
   have to4:(upd H3 wl (.lst [MU t0])) o=some (.lst (NV (C9 rss.length))):=by rw [af how]; exact to3
   have ts4:(upd H3 wl (.lst [MU t0])) st=some (.lst []):=by rw [af hsw]; exact ts3
   have tw4:(upd H3 wl (.lst [MU t0])) wl=some (.lst ([t0].map MU)):=ab
   have T4:TrAt (upd H3 wl (.lst [MU t0])) [t0] [(0,rss.length,0)]:=by
    refine ⟨rfl,λ i q s a b=>?_⟩
    match i,a,b with
    | 0,a,b=>cases a; cases b; rw [af (ae tt0 hwl0)]; exact tt0
    | i+1,a,_=>simp at a
   generalize upd H3 wl (.lst [MU t0])=H4 at s4 to4 ts4 tw4 T4
   nofun
   refine ⟨λ m σ H'=>∃ (ws:List ce) (qs:List Addr) (os:List Nat) (zs:List Addr),m=k5 b C ws/\Same H H'/\H' o=some (.lst (NV os))/\H' st=some (.lst (zs.map MU))/\H' wl=some (.lst (qs.map MU))/\TrAt H' qs ws/\Msd rss C os ws/\Low b ws/\zs.length+gB ws<=200/\(∃ sts,TrAt H' zs sts/\Fst rss C os sts (ws.filter (act C)))/\∃ v6 v7 v8 v9 va vb,σ=[some (MU a),some (MS b),some (MU o),some (MU st),some (MS C),some (MU wl),v6,v7,v8,v9,va,vb],⟨_,_,_,_,[],rfl,s4,to4,ts4,tw4,T4,Msd.start rss C,(λ i s e=>?_),?_,⟨[],⟨rfl,λ i q s h=>by simp at h⟩,Fst.start⟩,_,_,_,_,_,_,rfl⟩,?_⟩
   ·match i,e with
    | 0,_=>exact Du _
    | i+1,e=>simp at e
   ·show 0+(rss.length - 0 - 1+0)<=200
    lia
   rintro m σ H5 ⟨ws,qs,os,zs,rfl,s5,to5,ts5,tw5,T5,M5,L5,ph5,⟨sts,TZ5,F5⟩,v6,v7,v8,v9,va,vb,rfl⟩
   nofun
   refine ⟨_,Cn (MQ tw5),?_⟩
   by_cases hq0:qs=[]
   ·have hw0:ws=[]:=Eo.mp (by rw [<-T5.1,hq0]; rfl)
    subst hq0 hw0
    rw [if_neg (by simp)]
    nofun
    refine ⟨aL (by simp),λ t ht=>?_⟩
    exact k t o st zs os sts _ F5 (by rw [<-TZ5.1]; lia) ab (by rw [af (ae to5 ht)]; exact to5) M5.perm M5.done (by rw [af (ae ts5 ht)]; exact ts5) (TZ5.same ((MW H5).new ht)) h0s (s5.free ht) ho hstn (s5.new ht)
   obtain ⟨rs,q,vs,⟨f,l,c⟩,rfl,rfl,Tr,tq⟩:=T5.last hq0
   have tq:H5 q=some (.tup [.int (f:Nat),.int (l:Nat),.int (c:Nat)]):=tq
   have hne:(!((rs++[q]).map MU).isEmpty)=true:=by simp
   rw [if_pos hne]
   refine ⟨_,λ _ _ z=>z,?_⟩
   nofun
   refine ⟨cj tw5,?_⟩
   rw [Dr] at tw5
   refine mf tw5 ?_
   have s6:=s5.own (o:=.lst (rs.map MU)) hwn
   have to6:(upd H5 wl (.lst (rs.map MU))) o=some (.lst (NV os)):=by rw [af how]; exact to5
   have ts6:(upd H5 wl (.lst (rs.map MU))) st=some (.lst (zs.map MU)):=by rw [af hsw]; exact ts5
   have TZ6:TrAt (upd H5 wl (.lst (rs.map MU))) zs sts:=TZ5.own tw5
   have tw6:(upd H5 wl (.lst (rs.map MU))) wl=some (.lst (rs.map MU)):=ab
   have T6:TrAt (upd H5 wl (.lst (rs.map MU))) rs vs:=Tr.own tw5
   have tq6:(upd H5 wl (.lst (rs.map MU))) q=some (.tup [.int (f:Nat),.int (l:Nat),.int (c:Nat)]):=by rw [af (cB tq tw5 (by intro c; cases c))]; exact tq
   generalize upd H5 wl (.lst (rs.map MU))=H6 at s6 to6 ts6 tw6 T6 tq6 TZ6
   refine k4 tq6 ?_
   dsimp only [EU]
   have hok:f<=l/\l<=rss.length/\c<=C:=M5.ok (f,l,c) (Dj _ (Dk.mpr rfl))
   obtain ⟨hfl,hln,hcC⟩:=hok
   have hosl:os.length=rss.length:=by have:=M5.perm.length_eq; simpa using this
   rw [m6] at ph5
   have ph5:zs.length+(gB vs+(l - f - 1))<=200:=ph5
   nofun
   refine aY (λ g1=>?_) (λ g1=>?_)
   ·nofun
    exact ⟨_,nX b C vs (f,l,c),vs,rs,os,zs,rfl,s6,to6,ts6,tw6,T6,M5.skip hC (.inl (by lia)),L5.left,by lia,⟨sts,TZ6,F5.skip (.inl (by lia))⟩,_,_,_,_,_,_,rfl⟩
   nofun
   refine aY (λ g2=>?_) (λ g2=>?_)
   ·have ecC:c=C:=MO (MS.inj g2)
    nofun
    exact ⟨_,nX b C vs (f,l,c),vs,rs,os,zs,rfl,s6,to6,ts6,tw6,T6,M5.skip hC (.inr ecC),L5.left,by lia,⟨sts,TZ6,F5.skip (.inr ecC)⟩,_,_,_,_,_,_,rfl⟩
   have hcC':c<C:=by
    have:c≠C:=λ z=>g2 (by rw [z])
    lia
   have hcw:c<w:=by lia
   nofun
   refine ⟨_,rfl,?_⟩
   nofun
   refine ⟨_,rfl,?_⟩
   refine ⟨o,_,rfl,MQ to6,λ z hz=>?_⟩
   rw [zR os hfl (by lia)]
   have hsl:((os.drop f).take (l - f)).length=l - f:=by rw [Df,DU]; lia
   have hsm:∀ x∈(os.drop f).take (l - f),x<rss.length:=λ x hx=>by simpa using M5.perm.mem_iff.mp (DO (DL hx))
   have hfst:=λ hbb=>F5.go (b:=b) (by lia) hcC' hb hbb
   have hstep:=λ ob hB=>M5.step (ob:=ob) hC hcC' (vQ hG hcw) hB
   have hback:os.take f++(os.drop f).take (l - f)++os.drop l=os:=by
    have e1:os.drop l=(os.drop f).drop (l - f):=by rw [Hh]; congr 1; lia
    rw [e1,DH,DP,DP]
   generalize (os.drop f).take (l - f)=seg at hsl hsm hstep hback hfst
   have s67:=(MW H6).new (o:=.lst (NV seg)) hz
   have tz:(upd H6 z (.lst (NV seg))) z=some (.lst (NV seg)):=ab
   generalize upd H6 z (.lst (NV seg))=H7 at s67 tz
   nofun
   refine ⟨z,rfl,⟨_,MQ tz⟩,bp (a:=z) (vs:=NV seg) (λ i ys σ H'=>H'=H7/\i<=seg.length/\ys=NV ((seg.map λ p=>(fz rss c).getD p 0).take i)/\∃ v,σ=[v,some (MU a),some (MS c)]) (by rw [ax]; exact ap (by lia)) (λ i ys σ H' h=>by rw [h.2.2.1,ax,Df,C6]; lia) (λ i ys σ H' h=>by rw [h.1]; exact MQ tz) ⟨rfl,Du _,rfl,none,rfl⟩ ?_ ?_⟩
   ·rintro j ys σ H' x hx ⟨rfl,_,rfl,v,rfl⟩
    have hil:=aR hx
    obtain ⟨q,rfl,hq,hqm,hj⟩:=aQ hx
    have hqn:=hsm q hqm
    have hqp:q<ps.length:=by lia
    have er:rss[q]? = some rss[q]:=by simp [hqn]
    obtain ⟨g3,g4⟩:=xZ hG er hcw
    nofun
    refine br (MQ (s67 _ _ (s6 _ _ ta))) (v:=MU ps[q]) (aO (by rw [De]; simp [hqp])) ?_
    nofun
    refine zP ((hR.same (s6.trans s67)).2 q ps[q] _ (by simp [hqp]) er) (jX rfl g3) ?_
    refine MX hil ⟨rfl,hj,?_,_,rfl⟩
    rw [cM,Dz,De,hq]
    show _=NV (_++[(fz rss c).getD q 0])
    rw [getD_some g4]
   rintro ys σ H' ⟨rfl,_,rfl,v,rfl⟩ y hy
   rw [Da (by rw [ax,C6]; exact C8 _)]
   have hrl:(seg.map λ p=>(fz rss c).getD p 0).length=l - f:=by rw [C6]; exact hsl
   have hrb:∀ x∈seg.map λ p=>(fz rss c).getD p 0,x<b:=λ x hx=>by
    obtain ⟨p,hp,rfl⟩:=DM.mp hx
    have hp':p<(fz rss c).length:=by rw [x6]; exact hsm p hp
    rw [C5,C4 hp']
    exact vQ hG hcw _ (Dl hp')
   generalize (seg.map λ p=>(fz rss c).getD p 0)=row at hrl hrb hstep hfst
   obtain ⟨hfst1,hfst2⟩:=hfst hrb
   have s78:=(MW H').new (o:=.lst (NV row)) hy
   have ty:(upd H' y (.lst (NV row))) y=some (.lst (NV row)):=ab
   generalize upd H' y (.lst (NV row))=H8 at s78 ty
   nofun
   refine ⟨y,row,b,rfl,ty,hrb,by lia,hb,λ cc H9 hcc s9 tcc=>?_⟩
   nofun
   refine ⟨cc,cnt row b,rfl,.inl tcc,by rw [aS]; exact hb,λ HA sA=>?_⟩
   have s6A:=s67.trans (s78.trans (s9.trans sA))
   have toA:=s6A _ _ to6
   have tsA:=s6A _ _ ts6
   have twA:=s6A _ _ tw6
   have TA:=T6.same s6A
   have TZA:=TZ6.same s6A
   have tyA:=sA _ _ (s9 _ _ ty)
   have tccA:=sA _ _ tcc
   have tzA:=(s78.trans (s9.trans sA)) _ _ tz
   have s0A:=s6.trans s6A
   have hcco:cc≠o:=λ z=>by rw [z] at hcc; rw [(s67.trans s78) _ _ to6] at hcc; cases hcc
   have hccs:cc≠st:=λ z=>by rw [z] at hcc; rw [(s67.trans s78) _ _ ts6] at hcc; cases hcc
   have hcsum:(cnt row b).sum=l - f:=by rw [xw hrb]; exact hrl
   have hpar:=mh vs f (c+1) (cnt row b)
   have hpp0:0<(iU (cnt row b)).length:=by
    rcases Fg (iU (cnt row b)).length with g | g
    ·have:=k7 (cnt row b)
     have h0:((cnt row b).map λ c=>c - 1).sum=0:=by
      have:∀ c∈cnt row b,c - 1=0:=λ c hc=>by
       have hn0:c∉iU (cnt row b):=λ z=>by rw [Eo.mp g] at z; cases z
       unfold iU at hn0
       rw [Ee] at hn0
       have:¬ 0<c:=λ z=>hn0 ⟨hc,decide_eq_true z⟩
       lia
      rw [jq 0 _ this]; lia
     lia
    ·exact g
   nofun
   apply BG (α:=List Nat) (S:=λ ob HD=>ByF row ob/\Same H HD/\HD o=some (.lst (NV (os.take f++cmp seg ob++os.drop l)))/\(∃ zs':List Addr,HD st=some (.lst (zs'.map MU))/\zs'.length+gB (vs++(aF f (cnt row b) (c+1)).reverse)<=200/\∃ sts',TrAt HD zs' sts'/\Fst rss C (os.take f++cmp seg ob++os.drop l) sts' ((vs++(aF f (cnt row b) (c+1)).reverse).filter (act C)))/\HD wl=some (.lst (rs.map MU))/\TrAt HD rs vs/\HD cc=some (.lst (NV (cnt row b))))
   case hA=>
    intro key
    by_cases hp:bD (cnt row b)=true
    ·rw [if_pos hp]
     nofun
     refine ⟨y,row,b,rfl,tyA,hrb,by lia,hb,λ d ob HB hd0 sB td hB=>?_⟩
     have hO:=hB.ord
     rw [hrl] at hO
     have tzB:=sB _ _ tzA
     nofun
     refine ⟨d,rfl,⟨_,MQ td⟩,bp (a:=d) (vs:=NV ob) (λ i ys σ H'=>H'=HB/\i<=ob.length/\ys=NV ((cmp seg ob).take i)/\∃ v,σ=[v,some (MU z)]) (by rw [ax,hO.len]; exact ap (by lia)) (λ i ys σ H' h=>by rw [h.2.2.1,ax,Df,kT]; lia) (λ i ys σ H' h=>by rw [h.1]; exact MQ td) ⟨rfl,Du _,rfl,none,rfl⟩ ?_ ?_⟩
     ·rintro j ys σ H9' x hx ⟨rfl,_,rfl,v,rfl⟩
      have hil:=aR hx
      obtain ⟨q,rfl,hq,hqm,hj⟩:=aQ hx
      have hqn:=hO.lt q hqm
      have hqo:q<seg.length:=by lia
      nofun
      refine br (MQ tzB) (jX rfl (o:=seg[q]) (by simp [hqo])) ?_
      refine MX hil ⟨rfl,hj,?_,_,rfl⟩
      rw [cM,Dz,qS hq (r:=seg[q]) (by simp [hqo])]; rfl
     rintro ys σ HB' ⟨eB,_,rfl,v,rfl⟩ e he
     subst eB
     rw [Da (by rw [ax,kT]; exact C8 _)]
     have hcl:(cmp seg ob).length=l - f:=by rw [kT,hO.len]
     have sC:=(MW HB').new (o:=.lst (NV (cmp seg ob))) he
     have te:(upd HB' e (.lst (NV (cmp seg ob)))) e=some (.lst (NV (cmp seg ob))):=ab
     have hoe:o≠e:=ae (sB _ _ toA) he
     generalize upd HB' e (.lst (NV (cmp seg ob)))=HC at sC te
     have sAC:=sB.trans sC
     nofun
     refine ⟨o,e,_,_,_,_,rfl,rfl,rfl,rfl,sAC _ _ toA,te,hoe,by lia,by lia,by rw [ax]; lia,aL (by rw [ax,ax]; lia),?_⟩
     have espl:(NV os).take ((f:Nat):Int).toNat++NV (cmp seg ob)++(NV os).drop ((l:Nat):Int).toNat=NV (os.take f++cmp seg ob++os.drop l):=by
      rw [Eb,Eb]
      unfold NV
      rw [Dr,Dr,Fn,Fo]
     rw [espl]
     have sD:=(s0A.trans sAC).own (o:=.lst (NV (os.take f++cmp seg ob++os.drop l))) ho
     have toD:(upd HC o (.lst (NV (os.take f++cmp seg ob++os.drop l)))) o=some (.lst (NV (os.take f++cmp seg ob++os.drop l))):=ab
     have tsD:(upd HC o (.lst (NV (os.take f++cmp seg ob++os.drop l)))) st=some (.lst (zs.map MU)):=by rw [af (DX h0s)]; exact sAC _ _ tsA
     have TZD:TrAt (upd HC o (.lst (NV (os.take f++cmp seg ob++os.drop l)))) zs sts:=(TZA.same sAC).own (sAC _ _ toA)
     have twD:(upd HC o (.lst (NV (os.take f++cmp seg ob++os.drop l)))) wl=some (.lst (rs.map MU)):=by rw [af (DX how)]; exact sAC _ _ twA
     have TD:TrAt (upd HC o (.lst (NV (os.take f++cmp seg ob++os.drop l)))) rs vs:=(TA.same sAC).own (sAC _ _ toA)
     have tcD:(upd HC o (.lst (NV (os.take f++cmp seg ob++os.drop l)))) cc=some (.lst (NV (cnt row b))):=by rw [af hcco]; exact sAC _ _ tccA
     generalize upd HC o (.lst (NV (os.take f++cmp seg ob++os.drop l)))=HD at sD toD tsD twD TD tcD TZD
     nofun
     refine ⟨cj tsD,?_⟩
     nofun
     refine ⟨aL (by simp),λ tq2 htq2=>?_⟩
     have sE:=(MW HD).new (o:=.tup [MS (f:Nat),MS (l:Nat),MS (c:Nat)]) htq2
     have ttq2:(upd HD tq2 (.tup [MS (f:Nat),MS (l:Nat),MS (c:Nat)])) tq2=some (.tup [MS (f:Nat),MS (l:Nat),MS (c:Nat)]):=ab
     generalize upd HD tq2 (.tup [MS (f:Nat),MS (l:Nat),MS (c:Nat)])=HE at sE ttq2
     nofun
     refine bS (sE _ _ tsD) (ap (by rw [C6]; lia)) ?_
     rw [show zs.map MU++[MU tq2]=(zs++[tq2]).map MU by rw [Dr]; rfl]
     have hpp:1<(iU (cnt row b)).length:=by unfold bD at hp; exact of_decide_eq_true hp
     have q1:=(sD.trans sE).own (o:=.lst ((zs++[tq2]).map MU)) hstn
     have q2:(upd HE st (.lst ((zs++[tq2]).map MU))) o=some (.lst (NV (os.take f++cmp seg ob++os.drop l))):=by rw [af h0s]; exact sE _ _ toD
     have q3:(upd HE st (.lst ((zs++[tq2]).map MU))) st=some (.lst ((zs++[tq2]).map MU)):=ab
     have q4:(upd HE st (.lst ((zs++[tq2]).map MU))) wl=some (.lst (rs.map MU)):=by rw [af (DX hsw)]; exact sE _ _ twD
     have q5:TrAt (upd HE st (.lst ((zs++[tq2]).map MU))) rs vs:=(TD.same sE).own (sE _ _ tsD)
     have q6:(upd HE st (.lst ((zs++[tq2]).map MU))) cc=some (.lst (NV (cnt row b))):=by rw [af hccs]; exact sE _ _ tcD
     have q7:TrAt (upd HE st (.lst ((zs++[tq2]).map MU))) (zs++[tq2]) (sts++[(f,l,c)]):=((TZD.same sE).snoc (s:=(f,l,c)) ttq2).own (sE _ _ tsD)
     generalize upd HE st (.lst ((zs++[tq2]).map MU))=HF at q1 q2 q3 q4 q5 q6 q7
     nofun
     exact key ob HF ⟨hB,q1,q2,⟨_,q3,by rw [Dg,Gw]; lia,_,q7,hfst1 ob hB hp⟩,q4,q5,q6⟩
    ·rw [if_neg hp]
     obtain ⟨ob,hob,hcb⟩:∃ ob,ByF row ob/\cmp seg ob=seg:=⟨_,rj λ x hx y hy=>hE hrb hp hx hy,rk seg (by rw [hrl]; exact hsl)⟩
     nofun
     refine key ob HA ⟨hob,s0A,?_,⟨zs,tsA,by lia,sts,TZA,?_⟩,twA,TA,tccA⟩
     ·rw [hcb,hback]; exact toA
     ·rw [hcb,hback]; exact hfst2 hp
   case hB=>
    rintro ob HD ⟨hob,sD,toD,⟨zs',tsD,phD,sts',TZD,FD⟩,twD,TD,tcD⟩
    refine ⟨cj twD,?_⟩
    have ec1:(c:Int)+1=((c+1:Nat):Int):=by lia
    nofun
    rw [ec1]
    refine ⟨f,c+1,cc,cnt row b,rfl,tcD,by rw [aS]; exact hb,λ pl us HE hpl0 sE tpl TE=>?_⟩
    nofun
    refine ⟨pl,_,rfl,MQ tpl,λ rv hrv=>?_⟩
    have erv:(us.map MU).reverse=us.reverse.map MU:=(IH ..).symm
    rw [erv]
    have sF:=sE.new (o:=.lst (us.reverse.map MU)) hrv
    have TF:=TE.same ((MW HE).new (o:=.lst (us.reverse.map MU)) hrv)
    have trv:(upd HE rv (.lst (us.reverse.map MU))) rv=some (.lst (us.reverse.map MU)):=ab
    generalize upd HE rv (.lst (us.reverse.map MU))=HF at sF TF trv
    have hlow:=L5.step (cs:=cnt row b) (aS row b)
    have hlen:=hlow.len (C:=C) (hstep ob hob).ok'
    have hul:us.length=b:=by rw [TF.1,kz,aS]
    have hrsl:rs.length+us.length<=7681:=by
     have e1:(vs++(aF f (cnt row b) (c+1)).reverse).length=rs.length+us.length:=by rw [Dg,FW,<-TD.1,TF.1]
     have e2:b*C<=64*120:=KS hb (by lia)
     lia
    nofun
    refine rh (sF _ _ twD) trv (EN (EE (by rw [C6,C6,FW]; exact hrsl) (by decide))) ?_
    rw [<-Dr]
    refine ⟨_,pi vs hcC' (aS row b),_,rs++us.reverse,_,zs',rfl,(sD.trans sF).own hwn,?_,?_,ab,?_,hstep ob hob,hlow,phD,⟨sts',(TZD.same sF).own (sF _ _ twD),FD⟩,_,_,_,_,_,_,rfl⟩
    ·rw [af how]; exact sF _ _ toD
    ·rw [af hsw]; exact sF _ _ tsD
    ·exact ((TD.same sF).app TF.rev).own (sF _ _ twD)
theorem sM {hv:V} {ea:Addr} {n:Int}:(hwF pa hv ma ea n).lookup ("step" : Str)=none/\(hwF pa hv ma ea n).lookup ("puts" : Str)=none/\(hwF pa hv ma ea n).lookup ("row" : Str)=none:=
 ⟨iE _ _ _ _ _ (by decide +kernel) (by decide +kernel) (by decide +kernel) (by decide +kernel) (by decide +kernel),iE _ _ _ _ _ (by decide +kernel) (by decide +kernel) (by decide +kernel) (by decide +kernel) (by decide +kernel),iE _ _ _ _ _ (by decide +kernel) (by decide +kernel) (by decide +kernel) (by decide +kernel) (by decide +kernel)⟩
def yd (C:Addr):Sp:=λ vs H Q _=>∃ (a:Addr) (rs:List Addr) (qs:List (Nat×Nat)) (b:Nat),vs=[.ref a,.int (b:Nat)]/\H a=some (.lst (rs.map MU))/\PsT H rs qs/\qs.length<=200/\(∀ q∈qs,q.1<b)/\b<=64/\
 ∀ (w pa ma ea:Addr) (us:List V) (hv:V) (st:HW) H',H w=none->H pa=none->H ma=none->H ea=none->HwAt C H' w pa ma ea us hv st->EndW (hw0 qs b) st->Same H H'->Q (.ref w) H'
theorem mL (T:Tx K mg t):FnOk P w K mg base CX0 5 t.lO t.lL ["row","base"] (yd t.aa):=by
 refine T.lG.okQ sc_walked (λ vs H Q E h=>?_) (λ cdv A outer s H vs Q E hr h=>?_)
 ·obtain ⟨a,rs,qs,b,rfl,_⟩:=h
  rfl
 ·obtain ⟨a,rs,qs,b,rfl,ta,R,hn,hqb,hb,k⟩:=h
  refine ⟨_,(ac (au (i:=2) sc_walked.nd rfl (Di rfl) (xK T.fS (fx T) (hr.mono (by decide)) rfl T.nJ T.fU aK (al (qv 0) (al (qv 1) ad))))
   (ac (dL D4 (aB on (dN (qv 2) T.aj T.jQ (iO T) (hr.mono (by decide)) T.jR aK ) c7 (aG _)) (am xk))
   (am (aD (qv 2))))),?_⟩
  rw [show L2.start ["row","base","walk"] [MU a,MS (b:Nat)]=[some (MU a),some (MS (b:Nat)),none] from rfl]
  nofun
  intro w dx hw hdx hne
  have sN:Same H (upd (upd H dx (.own w)) w (.ins t.aa dx [])):=λ b u e=>by
   rw [af (ae e hw),af (ae e hdx)]; exact e
  refine ⟨w,dx,a,rs,qs,b,rfl,ab,sN _ _ ta,R.same sN,hn,hqb,hb,λ pa ma ea us H1 hpa hma hea W1 kp1=>⟨rfl,?_⟩⟩
  have s1:Same H H1:=λ b u e=>kp1 _ _ (sN _ _ e) (ae e hw)
  have hpa0:H pa=none:=sN.free hpa
  have hma0:H ma=none:=sN.free hma
  nofun
  refine ⟨λ mm σ H'=>KpH w pa ma H1 H'/\∃ (kk:Nat) (us:List V) (hv:V),mm=(MZ kk (hw0 qs b)).mu (qs.map Dc)/\(∀ j,j<kk->(MZ j (hw0 qs b)).step.1≠none)/\HwAt t.aa H' w pa ma ea us hv (MZ kk (hw0 qs b))/\σ=[some (MU a),some (MS (b:Nat)),some (MU w)],⟨_,λ _ _ e _ _ _=>e,0,us,.non,rfl,λ j hj=>absurd hj (EF _),W1,rfl⟩,?_⟩
  rintro mm σ H7 ⟨K7,kk,us7,hv7,rfl,hj,W7,rfl⟩
  have O7:=nr hqb kk
  have hm:=ll O7 hqb
  obtain ⟨dx7,ob7⟩:=W7.ob
  nofun
  refine ⟨w,dx7,_,rfl,ob7,sM.1,?_⟩
  refine ⟨w,pa,ma,ea,us7,hv7,_,qs,b,rfl,W7,O7,hqb,hb,λ mv us8 hv8 H8 W8 K8 M8=>?_⟩
  cases hs:(MZ kk (hw0 qs b)).step.1 with
  | none=>
   rw [hs] at M8
   have hmv:mv=.non:=M8
   nofun
   rw [decide_eq_true hmv]
   nofun
   refine k w pa ma ea us8 hv8 _ H8 hw hpa0 hma0 (sN.free hea) W8 ⟨kk,hs,hj,rfl⟩ λ c o e=>?_
   exact (K7.trans K8) c o (s1 _ _ e) (ae e hw) (ae e hpa0) (ae e hma0)
  | some m=>
   rw [hs] at M8
   obtain ⟨qm,emv,tqm⟩:=MvV.some M8
   subst emv
   nofun
   rw [decide_eq_false (show ¬ MU qm=MV from λ z=>by cases z)]
   nofun
   refine ⟨_,λ _ _ z=>z,?_⟩
   nofun
   refine ⟨(MZ (kk+1) (hw0 qs b)).mu (qs.map Dc),?_,K7.trans K8,kk+1,us8,hv8,rfl,λ j hj'=>?_,W8,rfl⟩
   ·show (MZ kk (hw0 qs b)).step.2.mu (qs.map Dc)<_
    rcases hm with h | h
    ·rw [hs] at h; cases h
    ·lia
   ·by_cases e:j=kk
    ·rw [e,hs]; simp
    ·exact hj j (by lia)
theorem PsT.snoc {H:Hp} {qs:List (Nat×Nat)} {z:Nat×Nat} (h:PsT H rs qs) (e:H a=some (.tup [.int (z.1:Nat),.int (z.2:Nat)])):PsT H (rs++[a]) (qs++[z]):=by
 refine ⟨by simp [h.1],λ i q y a c=>?_⟩
 rcases aN a with ⟨l,a⟩ | ⟨l,a⟩
 ·rcases aN c with ⟨_,c⟩ | ⟨l',c⟩
  ·exact h.2 i q y a c
  ·have:=h.1; lia
 ·rcases aN c with ⟨l',c⟩ | ⟨_,c⟩
  ·have:=h.1; lia
  ·rw [a,c]; exact e
theorem sO (xs:List V) (h1:f<=l) (h2:l<=xs.length):kI xs (some (f:Int)) (some (l:Int))=(xs.drop f).take (l - f):=by
 unfold kI
 rw [HT.eT,HT.eT,E7 (by lia:f<=xs.length),E7 h2]
theorem mM {K:C7} {H:Hp} {Q:VK} {p:Addr} (h:H p=some (.lst xs)\/H p=some (.tup xs)) (k:∀ (q:Addr) H',Same H H'->H' q=some (.tup xs)->Q (.ref q) H'):iR K [.ref p] H Q:=by
 rcases h with h | h
 ·exact ⟨p,xs,rfl,.inl ⟨MQ h,λ l hl=>k l _ ((MW H).new hl) ab⟩⟩
 ·exact ⟨p,xs,rfl,.inr ⟨MR h,k p H (MW H) h⟩⟩
theorem RowsT.seg {H:Hp} {ps:List Addr} {rss:List (List Nat)} (h:RowsT H ps rss) (f l:Nat):RowsT H ((ps.drop f).take (l - f)) (cf rss f l):=by
 unfold cf
 refine ⟨by rw [Df,Df,DU,DU,h.1],λ i p r a b=>?_⟩
 have hi:i<l - f:=by have:=aR a; rw [Df] at this; lia
 rw [D6 hi,EA] at a b
 exact h.2 _ p r a b
theorem RowsT.pick {H:Hp} {ps:List Addr} {rss:List (List Nat)} (h:RowsT H ps rss) {is:List Nat} (hi:∀ i∈is,i<rss.length):RowsT H (is.map λ i=>ps.getD i 0) (is.map λ i=>rss.getD i []):=by
 refine ⟨by simp,λ j p r a b=>?_⟩
 rw [De] at a b
 cases e:is[j]? with
 | none=>rw [e] at a; cases a
 | some i=>
  rw [e] at a b
  have hr:=hi i (Ek e)
  have hp:i<ps.length:=by rw [h.1]; exact hr
  have a:ps.getD i 0=p:=D7 a
  have b:rss.getD i []=r:=D7 b
  rw [C5,C4 hp] at a
  rw [C5,C4 hr] at b
  exact h.2 i p r (by rw [C4 hp]; exact congrArg some a) (by rw [C4 hr]; exact congrArg some b)
theorem RowsT.put {H:Hp} {ps:List Addr} {rss yss:List (List Nat)} (h:RowsT H ps rss) (g:RowsT H qs yss) (hfl:f<=l) (hl:l<=rss.length):RowsT H (ps.take f++qs++ps.drop l) (rss.take f++yss++rss.drop l):=by
 have hp:=h.1
 have hq:=g.1
 refine ⟨by simp only [Dg,Df,DU,hp,hq],λ i p r a b=>?_⟩
 by_cases h1:i<f
 ·rw [DH,Do (by rw [Df]; lia),D6 h1] at a b
  exact h.2 i p r a b
 ·by_cases h2:i<f+yss.length
  ·rw [Do (by rw [Dg,Df]; lia),Dy (by rw [Df]; lia),Df] at a b
   rw [E7 (by lia)] at a b
   exact g.2 _ p r a b
  ·rw [Dy (by rw [Dg,Df]; lia),Dg,Df,EA,E7 (by lia)] at a b
   rw [hq] at a
   exact h.2 _ p r a b
theorem lD {os:List Nat} (h:i<os.length):(qsO os).take (i+1)=(qsO os).take i++[(os.getD i 0,i)]:=by
 unfold qsO
 rw [Dz,De,Eg h]; rfl
theorem vR {H:Hp} {o:PR} (h:PrV H v o) (k:BS H H1):PrV H1 v o:=by
 cases o with
 | none=>exact h
 | some z=>obtain ⟨q,e,t⟩:=h; exact ⟨q,e,k _ _ t⟩
theorem Al {H:Hp} {ps:List PR} (h:PrsAt H vs ps) (k:BS H H1):PrsAt H1 vs ps:=⟨h.1,λ i v o a b=>vR (h.2 i v o a b) k⟩
theorem ij {C:Addr} {H:Hp} {w ea:Addr} {us:List V} {hv:V} {st:HW} (W:HwAt C H w pa ma ea us hv st) (k:∀ c o,H c=some o->(c=w\/c=pa\/c=ma\/c=ea)->H1 c=some o) (t:BS H H1):HwAt C H1 w pa ma ea us hv st:=by
 obtain ⟨dx,ob⟩:=W.ob
 exact ⟨⟨dx,k _ _ ob (.inl rfl)⟩,k _ _ W.tp (.inr (.inl rfl)),Al W.pv t,vR W.hh t,k _ _ W.tm (.inr (.inr (.inl rfl))),k _ _ W.te (.inr (.inr (.inr rfl))),W.n1,W.n2,W.n3⟩
noncomputable def bX (rss:List (List Nat)) (w:Nat):Nat:=if rss=[] then 0 else w
def Am:Sp:=λ vs H Q _=>∃ (a:Addr) (ps:List Addr) (rss:List (List Nat)) (w b:Nat),vs=[.ref a,.int b]/\(H a=some (.lst (ps.map MU))\/H a=some (.tup (ps.map MU)))/\RowsS H ps rss/\Good rss w b/\rss.length<=200/\w<=120/\b<=64/\
 ∀ (t l:Addr) (qs:List Addr) (os:List Nat) H',H t=none->H l=none->Same H H'->H' t=some (.tup [.ref l,.int (hT b (bX rss w) 0 rss:Nat)])->H' l=some (.lst (qs.map MU))->RowsT H' qs (os.map λ i=>rss.getD i [])->os.Perm (C9 rss.length)->os.Pairwise (Rk rss 0)->Q (.ref t) H'
theorem fC (T:Tx K mg t):FnOk P w K mg base CX0 6 t.dZ t.dX ["rows","base"] Am:=by
 refine T.dW.okQ sc_heap_sorted (λ vs H Q E h=>?_) (λ cdv A outer s H vs Q E hr h=>?_)
 ·obtain ⟨a,ps,rss,w,b,rfl,_⟩:=h
  rfl
 ·obtain ⟨a,ps,rss,w,b,rfl,hta,hR,hG,hn,hw,hb,k⟩:=h
  have hpl:ps.length=rss.length:=hR.1
  rcases hta with ta | ta
  ·refine ⟨_,(ac (kR (i:=2) (N:=["row"]) (tgs:=["row"]) (frs:=[]) (ix:=[])  sc_heap_sorted.nd rfl (Di rfl) ⟨rfl,by decide +kernel,rfl,by decide +kernel,rfl,rfl,Dv,Dv,rfl⟩ rfl (bc (K:=K) (qv 0)) (λ _ _ _ _=>(ak (i:=0) (by show DW (["row"]:List Str); decide +kernel) rfl (Di rfl))) (λ _ _ _ _=>(aV (gu (K:=K)) (by rfl) T.dy dU (al (qv 0) ad))))
   (ac (au (i:=3) sc_heap_sorted.nd rfl (Di rfl) ag)
   (ac (dC D4 rfl (bc (K:=K) (aC (dD (K:=K)) (av (gQ T) (hr.mono (by decide)) rfl T.iI T.fg.kp T.iH aK (al (qv 2) (al (qv 1) ad))) ag)) (c8 (K:=K) (n:=3) rfl (aq (ak (i:=4) sc_heap_sorted.nd rfl (Di rfl)) (aq (ak (i:=5) sc_heap_sorted.nd rfl (Di rfl)) (aq (ak (i:=6) sc_heap_sorted.nd rfl (FE rfl)) bE)))) (ac (au (i:=7) sc_heap_sorted.nd rfl (FE rfl) (dJ (qL (K:=K)) (qv 2) (cD (qv 4)) (cD (qv 5))))
   (ac (au (i:=8) sc_heap_sorted.nd rfl (Di rfl) (av (mL T) (hr.mono (by decide)) rfl T.oO T.lG.kp T.oN aK (al (bF (N:=["at","row","column"]) (tgs:=["at","row"]) (frs:=["column"]) (ix:=[6]) ⟨rfl,by decide +kernel,rfl,by decide +kernel,rfl,rfl,⟨⟨rfl,rfl,_,rfl,rfl⟩,Dv⟩,⟨rfl,Dv⟩,rfl⟩ rfl (jm (K:=K) rfl T.cy (al (qv 7) ad)) (λ _ _ _ _=>(c8 (K:=K) (n:=2) rfl (aq (ak (i:=0) (by show DW (["at","row","column"]:List Str); decide +kernel) rfl (Di rfl)) (aq (ak (i:=1) (by show DW (["at","row","column"]:List Str); decide +kernel) rfl (Di rfl)) bE)))) (λ _ _ _ _=>(bo (al (aC (dD (K:=K)) (qv 1) (qv 2)) (al (qv 0) ad))))) (al (qv 1) ad))))
   (ac (rg (bF (N:=["figure","at","stretch"]) (tgs:=["figure","at"]) (frs:=["stretch"]) (ix:=[7]) ⟨rfl,by decide +kernel,rfl,by decide +kernel,rfl,rfl,⟨⟨rfl,rfl,_,rfl,rfl⟩,Dv⟩,⟨rfl,Dv⟩,rfl⟩ rfl (bc (K:=K) (dN (qv 8) T.aj T.fF (fe T) (hr.mono (by decide)) T.fG aK )) (λ _ _ _ _=>(c8 (K:=K) (n:=2) rfl (aq (ak (i:=0) (by show DW (["figure","at","stretch"]:List Str); decide +kernel) rfl (Di rfl)) (aq (ak (i:=1) (by show DW (["figure","at","stretch"]:List Str); decide +kernel) rfl (Di rfl)) bE)))) (λ _ _ _ _=>(aC (bg (K:=K)) (qv 2) (qv 1)))) (qv 2) (qv 4) (qv 5))
   (am (nQ (i:=3) sc_heap_sorted.nd rfl (Di rfl) (dN (qv 8) T.aj T.fh (eC T) (hr.mono (by decide)) T.fk aK ) l7))))))
   (am (aD (bo (al (qv 2) (al (qv 3) ad)))))))),?_⟩
   rw [show L2.start ["rows","base","rising","all_puts","first","last","column","stretch","walk"] [MU a,MS b]=[some (MU a),some (MS b),none,none,none,none,none,none,none] from rfl]
   nofun
   refine ⟨a,rfl,⟨_,MQ ta⟩,bp (a:=a) (vs:=ps.map MU) (λ i ys σ H'=>Same H H'/\(∃ qs:List Addr,ys=qs.map MU/\qs.length=i/\RowsT H' qs (rss.take i))/\∃ v,σ=[v]) (by rw [C6]; exact ap (by lia)) (λ i ys σ H' h=>by obtain ⟨_,⟨qs,rfl,e,_⟩,_⟩:=h; rw [C6,e]) (λ i ys σ H' h=>MQ (h.1 _ _ ta)) ⟨MW _,⟨[],rfl,rfl,rfl,λ i p r h=>by simp at h⟩,none,rfl⟩ ?_ ?_⟩
   ·rintro i ys σ H1 x hx ⟨s1,⟨qs,rfl,hql,hR1⟩,v,rfl⟩
    have hil:=aR hx
    obtain ⟨p,rfl,hp,_,hi⟩:=aQ hx
    have hir:i<rss.length:=by lia
    nofun
    refine mM ((hR.same s1).2 i p _ hp (C4 hir)) λ q H2 s2 tq=>?_
    refine MX hil ⟨s1.trans s2,⟨qs++[q],by rw [Dr]; rfl,by simp [hql],?_⟩,_,rfl⟩
    rw [Dz,C4 hir]
    exact (hR1.same s2).snoc tq
   rintro ys σ H1 ⟨s1,⟨qs,rfl,hql,hR1⟩,v,rfl⟩ l hl
   rw [Da (by rw [C6]; lia)] at hR1
   have hln:H l=none:=s1.free hl
   have s2:=s1.new (o:=.lst (qs.map MU)) hl
   have hR2:=hR1.same ((MW H1).new (o:=.lst (qs.map MU)) hl)
   have tl:(upd H1 l (.lst (qs.map MU))) l=some (.lst (qs.map MU)):=ab
   generalize upd H1 l (.lst (qs.map MU))=H2 at s2 hR2 tl
   nofun
   refine ⟨l,qs,rss,w,b,rfl,tl,hR2.toS,hG,hn,hw,hb,λ tf o st zs os sts H3 hF hstl tt to hop hpw tst TZ hos ht ho hst s3=>?_⟩
   nofun
   have hC:∀ r∈rss,r.length=bX rss w/\∀ x∈r,x<b:=λ r hr=>⟨by unfold bX; rw [(hG r hr).1,if_neg (λ z=>by rw [z] at hr; cases hr)],(hG r hr).2⟩
   have hF:Fst rss (bX rss w) os sts []:=hF
   have hstb:=hF.stb
   obtain ⟨hd1,hd2⟩:=hF.heaped hC hb
   have hls:l≠st:=λ z=>by rw [z] at tl; rw [tl] at hst; cases hst
   refine ⟨st,rfl,⟨_,MQ tst⟩,gh (a:=st) (xs:=zs.map MU) (λ i σ H'=>Same H H'/\H' st=some (.lst (zs.map MU))/\TrAt H' zs sts/\(∃ rs:List Addr,H' l=some (.lst (rs.map MU))/\RowsT H' rs (bu b rss (sts.take i)).1)/\∃ v1 v2 v3 v4 v5,σ=[some (MU a),some (MS b),some (MU l),some (MS ((bu b rss (sts.take i)).2:Nat)),v1,v2,v3,v4,v5]) ⟨s2.trans s3,tst,TZ,⟨qs,s3 _ _ tl,hR2.same s3⟩,_,_,_,_,_,rfl⟩ (λ i σ H' _ h=>MQ h.2.1) ?_ ?_⟩
   ·rintro i x σ H4 hx ⟨s4,tst4,TZ4,⟨rs,tl4,R4⟩,v1,v2,v3,v4,v5,rfl⟩
    obtain ⟨q,rfl,hq,_,hi⟩:=aQ hx
    have his:i<sts.length:=by rw [<-TZ.1]; exact hi
    have es:sts[i]? = some sts[i]:=C4 his
    have tq:=TZ4.2 i q _ hq es
    have hPm:=kx (b:=b) hC (sts:=sts.take i) λ s hs=>hstb s (DL hs)
    obtain ⟨b1,b2,b3⟩:=hstb sts[i] (Dl his)
    rw [ku es]
    generalize bu b rss (sts.take i)=z at R4 hPm
    obtain ⟨RS,pz⟩:=z
    generalize sts[i]=s at tq b1 b2 b3
    obtain ⟨f,e,c⟩:=s
    have hPm:RS.Perm rss:=hPm
    have R4:RowsT H4 rs RS:=R4
    have b1:f+2<=e:=b1
    have b2:e<=rss.length:=b2
    have b3:c<bX rss w:=b3
    have hRl:RS.length=rss.length:=hPm.length_eq
    have hrl:rs.length=RS.length:=R4.1
    refine k4 tq ?_
    dsimp only [EU]
    nofun
    refine ⟨_,rfl,?_⟩
    nofun
    refine ⟨_,rfl,?_⟩
    refine ⟨l,_,rfl,MQ tl4,λ g hg=>?_⟩
    rw [sO _ (by lia) (by rw [C6]; lia),<-Fo,<-Fn]
    have Rg:=R4.seg f e
    have hgl:((rs.drop f).take (e - f)).length=e - f:=ic (by lia) (by lia)
    have hcol:∀ r∈cf RS f e,r.getD c 0<b:=λ r hr=>by
     obtain ⟨e1,e2⟩:=hC r (hPm.mem_iff.mp (DO (DL hr)))
     have hcl:c<r.length:=by lia
     rw [C5,C4 hcl]
     exact e2 _ (Dl _)
    have hrc:∀ r∈cf RS f e,c<r.length:=λ r hr=>by
     rw [(hC r (hPm.mem_iff.mp (DO (DL hr)))).1]; exact b3
    unfold nw
    generalize (rs.drop f).take (e - f)=gs at Rg hgl
    have s5:=s4.new (o:=.lst (gs.map MU)) hg
    have s45:=(MW H4).new (o:=.lst (gs.map MU)) hg
    have tg:(upd H4 g (.lst (gs.map MU))) g=some (.lst (gs.map MU)):=ab
    generalize upd H4 g (.lst (gs.map MU))=H5 at s5 s45 tg
    have Rg5:=Rg.same s45
    generalize cf RS f e=xs at Rg Rg5 hcol hrc
    have hxl:xs.length=e - f:=by rw [<-Rg.1]; exact hgl
    have hol:(aE c xs).length=e - f:=by rw [bH]; exact hxl
    nofun
    refine ⟨g,rfl,⟨_,MQ tg⟩,iS (n:=gs.length) (λ i ys σ H'=>Same H5 H'/\(∃ hs:List Addr,ys=hs.map MU/\hs.length=i/\PsT H' hs ((qsO (aE c xs)).take i))/\∃ v v',σ=[v,v',some (MS c)]) (ap (by lia)) (λ i ys σ H' h=>by obtain ⟨_,⟨hs,rfl,e,_⟩,_⟩:=h; rw [C6,e]) ⟨MW _,⟨[],rfl,rfl,rfl,λ i p r h=>by simp at h⟩,none,none,rfl⟩ ?_ ?_ ?_ ?_⟩
    ·rintro j ys σ H6 hj ⟨s6,_⟩
     exact ⟨_,_,MQ (s6 _ _ tg),by rw [De,C4 hj]; rfl⟩
    ·rintro ys σ H6 ⟨s6,_⟩
     exact ⟨_,MQ (s6 _ _ tg),by rw [C6]⟩
    ·rintro j x ys σ H6 H7 hj ⟨s6,⟨hs,rfl,hhl,hP⟩,v,v',rfl⟩ ⟨p,x1,rfl,hp,rfl,hx1⟩
     have hx2:=hx1 _ (MQ (s6 _ _ tg))
     obtain ⟨y,rfl,hy,hym,hjy⟩:=aQ hx2
     refine bT ab ?_
     dsimp only [EU]
     have s7:=s6.new (o:=.tup [MS (j:Nat),MU y]) hp
     have P7:=hP.same ((MW H6).new (o:=.tup [MS (j:Nat),MU y]) hp)
     generalize upd H6 p (.tup [MS (j:Nat),MU y])=H7 at s7 P7
     have hjx:j<xs.length:=by lia
     have ty:H7 y=some (.tup (NV xs[j])):=(Rg5.same s7).2 j y _ hy (C4 hjx)
     have hcj:=hrc _ (Dl hjx)
     have eo:(aE c xs).getD j 0=xs[j][c]:=by
      unfold aE
      rw [C5,De,C4 hjx]
      show xs[j].getD c 0=_
      rw [C5,C4 hcj]; rfl
     nofun
     refine gr (MR ty) (jX rfl (o:=xs[j][c]) (by simp [hcj])) ?_
     nofun
     refine ⟨aL (by simp),λ t ht=>?_⟩
     refine MX hj ⟨s7.new ht,⟨hs++[t],by rw [Dr]; rfl,by simp [hhl],?_⟩,_,_,rfl⟩
     rw [lD (by lia),eo]
     exact PsT.snoc (P7.same ((MW _).new ht)) ab
    rintro ys σ H6 ⟨s6,⟨hs,rfl,hhl,hP⟩,v,v',rfl⟩ y hy
    rw [Da (by rw [eZ]; lia)] at hP
    have s7:=s6.new (o:=.lst (hs.map MU)) hy
    have P7:=hP.same ((MW H6).new (o:=.lst (hs.map MU)) hy)
    have ty:(upd H6 y (.lst (hs.map MU))) y=some (.lst (hs.map MU)):=ab
    generalize upd H6 y (.lst (hs.map MU))=H7 at s7 P7 ty
    nofun
    refine ⟨y,hs,qsO (aE c xs),b,rfl,ty,P7,by rw [eZ]; lia,jE (cn hcol),hb,λ wk pa ma ea us hv stw H8 hwk hpk hmk hek W E s8=>?_⟩
    have eS:=lv E
    subst eS
    obtain ⟨f1,f2,f3⟩:=gK (cn hcol)
    nofun
    obtain ⟨dx,ob⟩:=W.ob
    refine ⟨wk,dx,_,rfl,ob,sM.2.2,?_⟩
    refine ⟨wk,pa,ma,ea,us,hv,_,rfl,W,by rw [f1,C6,f2.length_eq,DR]; lia,λ r ys H9 hr s9 tr P9=>?_⟩
    rw [f1] at P9
    have hyl:ys.length=(hsO (aE c xs) b).length:=by rw [P9.1,C6]
    have hhl:(hsO (aE c xs) b).length=e - f:=by rw [f2.length_eq,DR]; exact hol
    have hhm:∀ i∈hsO (aE c xs) b,i<e - f:=λ i hi=>by rw [<-hol]; exact DN.mp (f2.mem_iff.mp hi)
    have s59:=s7.trans (s8.trans s9)
    have tg9:=s59 _ _ tg
    have W9:=ij W (λ c o h _=>s9 c o h) λ q xs h=>s9 _ _ h
    nofun
    refine ⟨r,rfl,⟨_,MQ tr⟩,bp (a:=r) (vs:=ys) (λ i zs σ H'=>H'=H9/\zs=(((hsO (aE c xs) b).map λ k=>gs.getD k 0).take i).map MU/\i<=ys.length/\∃ v v',σ=[v,v',some (MU g)]) (by rw [hyl]; exact ap (by lia)) (λ i zs σ H' h=>by rw [h.2.1,C6,Df,C6]; have:=h.2.2.1; lia) (λ i zs σ H' h=>by rw [h.1]; exact MQ tr) ⟨rfl,rfl,Du _,none,none,rfl⟩ ?_ ?_⟩
    ·rintro j zs σ H' x hx ⟨rfl,rfl,hj,v,v',rfl⟩
     have hil:=aR hx
     have hjh:j<(hsO (aE c xs) b).length:=by lia
     have ej:(hsO (aE c xs) b)[j]? = some (hsO (aE c xs) b)[j]:=C4 hjh
     obtain ⟨q',rfl,tq'⟩:=P9.2 j x _ hx (by rw [De,ej]; rfl)
     have hkl:=hhm _ (Dl hjh)
     generalize (hsO (aE c xs) b)[j]=kk at ej tq' hkl
     have hkg:kk<gs.length:=by lia
     refine bT tq' ?_
     dsimp only [EU]
     nofun
     refine br (MQ tg9) (v:=MU gs[kk]) (aO (by rw [De,C4 hkg]; rfl)) ?_
     refine MX hil ⟨rfl,?_,by lia,_,_,rfl⟩
     rw [Dz,De,ej,Dr]
     show _=_++[MU (gs.getD kk 0)]
     rw [C5,C4 hkg]; rfl
    rintro zs σ H9' ⟨e9,rfl,_,v,v',rfl⟩ d hd
    subst e9
    rw [Da (by rw [C6,hyl]; exact C8 _)]
    have Rd0:=(Rg5.same s59).pick (is:=hsO (aE c xs) b) λ i hi=>by rw [hxl]; exact hhm i hi
    have hdl:((hsO (aE c xs) b).map λ k=>gs.getD k 0).length=e - f:=by rw [C6]; exact hhl
    have eR:(hsO (aE c xs) b).map (λ i=>xs.getD i [])=hsR b c xs:=rfl
    rw [eR] at Rd0
    generalize ((hsO (aE c xs) b).map λ k=>gs.getD k 0)=ds at Rd0 hdl
    have sA:=(MW H9').new (o:=.lst (ds.map MU)) hd
    have td:(upd H9' d (.lst (ds.map MU))) d=some (.lst (ds.map MU)):=ab
    have WA:=ij W9 (λ c o h _=>sA c o h) λ q xs h=>sA _ _ h
    have hld:l≠d:=ae ((s45.trans s59) _ _ tl4) hd
    generalize upd H9' d (.lst (ds.map MU))=HA at sA td WA
    have s4A:=(s45.trans s59).trans sA
    have tlA:=s4A _ _ tl4
    have RdA:=Rd0.same sA
    nofun
    refine ⟨l,d,_,_,_,_,rfl,rfl,rfl,rfl,tlA,td,hld,by lia,by lia,by rw [C6]; lia,aL (by rw [C6,C6]; lia),?_⟩
    have espl:(rs.map MU).take ((f:Nat):Int).toNat++ds.map MU++(rs.map MU).drop ((e:Nat):Int).toNat=(rs.take f++ds++rs.drop e).map MU:=by
     rw [Eb,Eb,Dr,Dr,Fn,Fo]
    rw [espl]
    have RB:=(R4.same s4A).put RdA (f:=f) (l:=e) (by lia) (by lia)
    have sB:=(s4.trans s4A).own (o:=.lst ((rs.take f++ds++rs.drop e).map MU)) hln
    have tlB:(upd HA l (.lst ((rs.take f++ds++rs.drop e).map MU))) l=some (.lst ((rs.take f++ds++rs.drop e).map MU)):=ab
    have RB2:RowsT (upd HA l (.lst ((rs.take f++ds++rs.drop e).map MU))) (rs.take f++ds++rs.drop e) (RS.take f++hsR b c xs++RS.drop e):=RB.own tlA
    have tstB:(upd HA l (.lst ((rs.take f++ds++rs.drop e).map MU))) st=some (.lst (zs.map MU)):=by rw [af (DX hls)]; exact s4A _ _ tst4
    have TZB:TrAt (upd HA l (.lst ((rs.take f++ds++rs.drop e).map MU))) zs sts:=(TZ4.same s4A).own tlA
    have tl7:H7 l=some (.lst (rs.map MU)):=(s45.trans s7) _ _ tl4
    have WB:HwAt t.aa (upd HA l (.lst ((rs.take f++ds++rs.drop e).map MU))) wk pa ma ea us hv (oA (aE c xs) b):=ij WA (λ c o h z=>by
     have:c≠l:=by
      rintro rfl
      rcases z with z | z | z | z
      ·rw [z,hwk] at tl7; cases tl7
      ·rw [z,hpk] at tl7; cases tl7
      ·rw [z,hmk] at tl7; cases tl7
      ·rw [z,hek] at tl7; cases tl7
     rw [af this]; exact h) λ q xs h=>by rw [af (cB h tlA (λ z=>nomatch z))]; exact h
    generalize upd HA l (.lst ((rs.take f++ds++rs.drop e).map MU))=HB at sB tlB RB2 tstB TZB WB
    nofun
    obtain ⟨dxB,obB⟩:=WB.ob
    refine ⟨wk,dxB,_,rfl,obB,sM.2.1,?_⟩
    refine ⟨wk,pa,ma,ea,us,hv,_,rfl,WB,?_⟩
    nofun
    have ep:((pz:Nat):Int)+((oA (aE c xs) b).pt:Nat)=((pz+hpO (aE c xs) b:Nat):Int):=by unfold hpO; lia
    rw [ep]
    exact ⟨sB,tstB,TZB,⟨_,tlB,RB2⟩,_,_,_,_,_,rfl⟩
   ·rintro σ H4 ⟨s4,tst4,TZ4,⟨rs,tl4,R4⟩,v1,v2,v3,v4,v5,rfl⟩
    rw [C6,Da (by rw [TZ.1]; exact C8 _)] at R4
    rw [C6,Da (by rw [TZ.1]; exact C8 _)]
    rw [hd1] at R4
    rw [hd2]
    nofun
    refine ⟨aL (by simp),λ t' ht'=>?_⟩
    exact k t' l rs os _ (s4.free ht') hln (s4.new ht') ab (by rw [af (ae tl4 ht')]; exact tl4) (R4.same ((MW H4).new ht')) hop hpw
  ·refine ⟨_,(ac (kR (i:=2) (N:=["row"]) (tgs:=["row"]) (frs:=[]) (ix:=[])  sc_heap_sorted.nd rfl (Di rfl) ⟨rfl,by decide +kernel,rfl,by decide +kernel,rfl,rfl,Dv,Dv,rfl⟩ rfl (qK (K:=K) (qv 0)) (λ _ _ _ _=>(ak (i:=0) (by show DW (["row"]:List Str); decide +kernel) rfl (Di rfl))) (λ _ _ _ _=>(aV (gu (K:=K)) (by rfl) T.dy dU (al (qv 0) ad))))
   (ac (au (i:=3) sc_heap_sorted.nd rfl (Di rfl) ag)
   (ac (dC D4 rfl (bc (K:=K) (aC (dD (K:=K)) (av (gQ T) (hr.mono (by decide)) rfl T.iI T.fg.kp T.iH aK (al (qv 2) (al (qv 1) ad))) ag)) (c8 (K:=K) (n:=3) rfl (aq (ak (i:=4) sc_heap_sorted.nd rfl (Di rfl)) (aq (ak (i:=5) sc_heap_sorted.nd rfl (Di rfl)) (aq (ak (i:=6) sc_heap_sorted.nd rfl (FE rfl)) bE)))) (ac (au (i:=7) sc_heap_sorted.nd rfl (FE rfl) (dJ (qL (K:=K)) (qv 2) (cD (qv 4)) (cD (qv 5))))
   (ac (au (i:=8) sc_heap_sorted.nd rfl (Di rfl) (av (mL T) (hr.mono (by decide)) rfl T.oO T.lG.kp T.oN aK (al (bF (N:=["at","row","column"]) (tgs:=["at","row"]) (frs:=["column"]) (ix:=[6]) ⟨rfl,by decide +kernel,rfl,by decide +kernel,rfl,rfl,⟨⟨rfl,rfl,_,rfl,rfl⟩,Dv⟩,⟨rfl,Dv⟩,rfl⟩ rfl (jm (K:=K) rfl T.cy (al (qv 7) ad)) (λ _ _ _ _=>(c8 (K:=K) (n:=2) rfl (aq (ak (i:=0) (by show DW (["at","row","column"]:List Str); decide +kernel) rfl (Di rfl)) (aq (ak (i:=1) (by show DW (["at","row","column"]:List Str); decide +kernel) rfl (Di rfl)) bE)))) (λ _ _ _ _=>(bo (al (aC (dD (K:=K)) (qv 1) (qv 2)) (al (qv 0) ad))))) (al (qv 1) ad))))
   (ac (rg (bF (N:=["figure","at","stretch"]) (tgs:=["figure","at"]) (frs:=["stretch"]) (ix:=[7]) ⟨rfl,by decide +kernel,rfl,by decide +kernel,rfl,rfl,⟨⟨rfl,rfl,_,rfl,rfl⟩,Dv⟩,⟨rfl,Dv⟩,rfl⟩ rfl (bc (K:=K) (dN (qv 8) T.aj T.fF (fe T) (hr.mono (by decide)) T.fG aK )) (λ _ _ _ _=>(c8 (K:=K) (n:=2) rfl (aq (ak (i:=0) (by show DW (["figure","at","stretch"]:List Str); decide +kernel) rfl (Di rfl)) (aq (ak (i:=1) (by show DW (["figure","at","stretch"]:List Str); decide +kernel) rfl (Di rfl)) bE)))) (λ _ _ _ _=>(aC (bg (K:=K)) (qv 2) (qv 1)))) (qv 2) (qv 4) (qv 5))
   (am (nQ (i:=3) sc_heap_sorted.nd rfl (Di rfl) (dN (qv 8) T.aj T.fh (eC T) (hr.mono (by decide)) T.fk aK ) l7))))))
   (am (aD (bo (al (qv 2) (al (qv 3) ad)))))))),?_⟩
   rw [show L2.start ["rows","base","rising","all_puts","first","last","column","stretch","walk"] [MU a,MS b]=[some (MU a),some (MS b),none,none,none,none,none,none,none] from rfl]
   nofun
   refine ⟨a,rfl,⟨_,MR ta⟩,qN (a:=a) (vs:=ps.map MU) (λ i ys σ H'=>Same H H'/\(∃ qs:List Addr,ys=qs.map MU/\qs.length=i/\RowsT H' qs (rss.take i))/\∃ v,σ=[v]) (by rw [C6]; exact ap (by lia)) (λ i ys σ H' h=>by obtain ⟨_,⟨qs,rfl,e,_⟩,_⟩:=h; rw [C6,e]) (λ i ys σ H' h=>MR (h.1 _ _ ta)) ⟨MW _,⟨[],rfl,rfl,rfl,λ i p r h=>by simp at h⟩,none,rfl⟩ ?_ ?_⟩
   ·rintro i ys σ H1 x hx ⟨s1,⟨qs,rfl,hql,hR1⟩,v,rfl⟩
    have hil:=aR hx
    obtain ⟨p,rfl,hp,_,hi⟩:=aQ hx
    have hir:i<rss.length:=by lia
    nofun
    refine mM ((hR.same s1).2 i p _ hp (C4 hir)) λ q H2 s2 tq=>?_
    refine MX hil ⟨s1.trans s2,⟨qs++[q],by rw [Dr]; rfl,by simp [hql],?_⟩,_,rfl⟩
    rw [Dz,C4 hir]
    exact (hR1.same s2).snoc tq
   rintro ys σ H1 ⟨s1,⟨qs,rfl,hql,hR1⟩,v,rfl⟩ l hl
   rw [Da (by rw [C6]; lia)] at hR1
   have hln:H l=none:=s1.free hl
   have s2:=s1.new (o:=.lst (qs.map MU)) hl
   have hR2:=hR1.same ((MW H1).new (o:=.lst (qs.map MU)) hl)
   have tl:(upd H1 l (.lst (qs.map MU))) l=some (.lst (qs.map MU)):=ab
   generalize upd H1 l (.lst (qs.map MU))=H2 at s2 hR2 tl
   nofun
   refine ⟨l,qs,rss,w,b,rfl,tl,hR2.toS,hG,hn,hw,hb,λ tf o st zs os sts H3 hF hstl tt to hop hpw tst TZ hos ht ho hst s3=>?_⟩
   nofun
   have hC:∀ r∈rss,r.length=bX rss w/\∀ x∈r,x<b:=λ r hr=>⟨by unfold bX; rw [(hG r hr).1,if_neg (λ z=>by rw [z] at hr; cases hr)],(hG r hr).2⟩
   have hF:Fst rss (bX rss w) os sts []:=hF
   have hstb:=hF.stb
   obtain ⟨hd1,hd2⟩:=hF.heaped hC hb
   have hls:l≠st:=λ z=>by rw [z] at tl; rw [tl] at hst; cases hst
   refine ⟨st,rfl,⟨_,MQ tst⟩,gh (a:=st) (xs:=zs.map MU) (λ i σ H'=>Same H H'/\H' st=some (.lst (zs.map MU))/\TrAt H' zs sts/\(∃ rs:List Addr,H' l=some (.lst (rs.map MU))/\RowsT H' rs (bu b rss (sts.take i)).1)/\∃ v1 v2 v3 v4 v5,σ=[some (MU a),some (MS b),some (MU l),some (MS ((bu b rss (sts.take i)).2:Nat)),v1,v2,v3,v4,v5]) ⟨s2.trans s3,tst,TZ,⟨qs,s3 _ _ tl,hR2.same s3⟩,_,_,_,_,_,rfl⟩ (λ i σ H' _ h=>MQ h.2.1) ?_ ?_⟩
   ·rintro i x σ H4 hx ⟨s4,tst4,TZ4,⟨rs,tl4,R4⟩,v1,v2,v3,v4,v5,rfl⟩
    obtain ⟨q,rfl,hq,_,hi⟩:=aQ hx
    have his:i<sts.length:=by rw [<-TZ.1]; exact hi
    have es:sts[i]? = some sts[i]:=C4 his
    have tq:=TZ4.2 i q _ hq es
    have hPm:=kx (b:=b) hC (sts:=sts.take i) λ s hs=>hstb s (DL hs)
    obtain ⟨b1,b2,b3⟩:=hstb sts[i] (Dl his)
    rw [ku es]
    generalize bu b rss (sts.take i)=z at R4 hPm
    obtain ⟨RS,pz⟩:=z
    generalize sts[i]=s at tq b1 b2 b3
    obtain ⟨f,e,c⟩:=s
    have hPm:RS.Perm rss:=hPm
    have R4:RowsT H4 rs RS:=R4
    have b1:f+2<=e:=b1
    have b2:e<=rss.length:=b2
    have b3:c<bX rss w:=b3
    have hRl:RS.length=rss.length:=hPm.length_eq
    have hrl:rs.length=RS.length:=R4.1
    refine k4 tq ?_
    dsimp only [EU]
    nofun
    refine ⟨_,rfl,?_⟩
    nofun
    refine ⟨_,rfl,?_⟩
    refine ⟨l,_,rfl,MQ tl4,λ g hg=>?_⟩
    rw [sO _ (by lia) (by rw [C6]; lia),<-Fo,<-Fn]
    have Rg:=R4.seg f e
    have hgl:((rs.drop f).take (e - f)).length=e - f:=ic (by lia) (by lia)
    have hcol:∀ r∈cf RS f e,r.getD c 0<b:=λ r hr=>by
     obtain ⟨e1,e2⟩:=hC r (hPm.mem_iff.mp (DO (DL hr)))
     have hcl:c<r.length:=by lia
     rw [C5,C4 hcl]
     exact e2 _ (Dl _)
    have hrc:∀ r∈cf RS f e,c<r.length:=λ r hr=>by
     rw [(hC r (hPm.mem_iff.mp (DO (DL hr)))).1]; exact b3
    unfold nw
    generalize (rs.drop f).take (e - f)=gs at Rg hgl
    have s5:=s4.new (o:=.lst (gs.map MU)) hg
    have s45:=(MW H4).new (o:=.lst (gs.map MU)) hg
    have tg:(upd H4 g (.lst (gs.map MU))) g=some (.lst (gs.map MU)):=ab
    generalize upd H4 g (.lst (gs.map MU))=H5 at s5 s45 tg
    have Rg5:=Rg.same s45
    generalize cf RS f e=xs at Rg Rg5 hcol hrc
    have hxl:xs.length=e - f:=by rw [<-Rg.1]; exact hgl
    have hol:(aE c xs).length=e - f:=by rw [bH]; exact hxl
    nofun
    refine ⟨g,rfl,⟨_,MQ tg⟩,iS (n:=gs.length) (λ i ys σ H'=>Same H5 H'/\(∃ hs:List Addr,ys=hs.map MU/\hs.length=i/\PsT H' hs ((qsO (aE c xs)).take i))/\∃ v v',σ=[v,v',some (MS c)]) (ap (by lia)) (λ i ys σ H' h=>by obtain ⟨_,⟨hs,rfl,e,_⟩,_⟩:=h; rw [C6,e]) ⟨MW _,⟨[],rfl,rfl,rfl,λ i p r h=>by simp at h⟩,none,none,rfl⟩ ?_ ?_ ?_ ?_⟩
    ·rintro j ys σ H6 hj ⟨s6,_⟩
     exact ⟨_,_,MQ (s6 _ _ tg),by rw [De,C4 hj]; rfl⟩
    ·rintro ys σ H6 ⟨s6,_⟩
     exact ⟨_,MQ (s6 _ _ tg),by rw [C6]⟩
    ·rintro j x ys σ H6 H7 hj ⟨s6,⟨hs,rfl,hhl,hP⟩,v,v',rfl⟩ ⟨p,x1,rfl,hp,rfl,hx1⟩
     have hx2:=hx1 _ (MQ (s6 _ _ tg))
     obtain ⟨y,rfl,hy,hym,hjy⟩:=aQ hx2
     refine bT ab ?_
     dsimp only [EU]
     have s7:=s6.new (o:=.tup [MS (j:Nat),MU y]) hp
     have P7:=hP.same ((MW H6).new (o:=.tup [MS (j:Nat),MU y]) hp)
     generalize upd H6 p (.tup [MS (j:Nat),MU y])=H7 at s7 P7
     have hjx:j<xs.length:=by lia
     have ty:H7 y=some (.tup (NV xs[j])):=(Rg5.same s7).2 j y _ hy (C4 hjx)
     have hcj:=hrc _ (Dl hjx)
     have eo:(aE c xs).getD j 0=xs[j][c]:=by
      unfold aE
      rw [C5,De,C4 hjx]
      show xs[j].getD c 0=_
      rw [C5,C4 hcj]; rfl
     nofun
     refine gr (MR ty) (jX rfl (o:=xs[j][c]) (by simp [hcj])) ?_
     nofun
     refine ⟨aL (by simp),λ t ht=>?_⟩
     refine MX hj ⟨s7.new ht,⟨hs++[t],by rw [Dr]; rfl,by simp [hhl],?_⟩,_,_,rfl⟩
     rw [lD (by lia),eo]
     exact PsT.snoc (P7.same ((MW _).new ht)) ab
    rintro ys σ H6 ⟨s6,⟨hs,rfl,hhl,hP⟩,v,v',rfl⟩ y hy
    rw [Da (by rw [eZ]; lia)] at hP
    have s7:=s6.new (o:=.lst (hs.map MU)) hy
    have P7:=hP.same ((MW H6).new (o:=.lst (hs.map MU)) hy)
    have ty:(upd H6 y (.lst (hs.map MU))) y=some (.lst (hs.map MU)):=ab
    generalize upd H6 y (.lst (hs.map MU))=H7 at s7 P7 ty
    nofun
    refine ⟨y,hs,qsO (aE c xs),b,rfl,ty,P7,by rw [eZ]; lia,jE (cn hcol),hb,λ wk pa ma ea us hv stw H8 hwk hpk hmk hek W E s8=>?_⟩
    have eS:=lv E
    subst eS
    obtain ⟨f1,f2,f3⟩:=gK (cn hcol)
    nofun
    obtain ⟨dx,ob⟩:=W.ob
    refine ⟨wk,dx,_,rfl,ob,sM.2.2,?_⟩
    refine ⟨wk,pa,ma,ea,us,hv,_,rfl,W,by rw [f1,C6,f2.length_eq,DR]; lia,λ r ys H9 hr s9 tr P9=>?_⟩
    rw [f1] at P9
    have hyl:ys.length=(hsO (aE c xs) b).length:=by rw [P9.1,C6]
    have hhl:(hsO (aE c xs) b).length=e - f:=by rw [f2.length_eq,DR]; exact hol
    have hhm:∀ i∈hsO (aE c xs) b,i<e - f:=λ i hi=>by rw [<-hol]; exact DN.mp (f2.mem_iff.mp hi)
    have s59:=s7.trans (s8.trans s9)
    have tg9:=s59 _ _ tg
    have W9:=ij W (λ c o h _=>s9 c o h) λ q xs h=>s9 _ _ h
    nofun
    refine ⟨r,rfl,⟨_,MQ tr⟩,bp (a:=r) (vs:=ys) (λ i zs σ H'=>H'=H9/\zs=(((hsO (aE c xs) b).map λ k=>gs.getD k 0).take i).map MU/\i<=ys.length/\∃ v v',σ=[v,v',some (MU g)]) (by rw [hyl]; exact ap (by lia)) (λ i zs σ H' h=>by rw [h.2.1,C6,Df,C6]; have:=h.2.2.1; lia) (λ i zs σ H' h=>by rw [h.1]; exact MQ tr) ⟨rfl,rfl,Du _,none,none,rfl⟩ ?_ ?_⟩
    ·rintro j zs σ H' x hx ⟨rfl,rfl,hj,v,v',rfl⟩
     have hil:=aR hx
     have hjh:j<(hsO (aE c xs) b).length:=by lia
     have ej:(hsO (aE c xs) b)[j]? = some (hsO (aE c xs) b)[j]:=C4 hjh
     obtain ⟨q',rfl,tq'⟩:=P9.2 j x _ hx (by rw [De,ej]; rfl)
     have hkl:=hhm _ (Dl hjh)
     generalize (hsO (aE c xs) b)[j]=kk at ej tq' hkl
     have hkg:kk<gs.length:=by lia
     refine bT tq' ?_
     dsimp only [EU]
     nofun
     refine br (MQ tg9) (v:=MU gs[kk]) (aO (by rw [De,C4 hkg]; rfl)) ?_
     refine MX hil ⟨rfl,?_,by lia,_,_,rfl⟩
     rw [Dz,De,ej,Dr]
     show _=_++[MU (gs.getD kk 0)]
     rw [C5,C4 hkg]; rfl
    rintro zs σ H9' ⟨e9,rfl,_,v,v',rfl⟩ d hd
    subst e9
    rw [Da (by rw [C6,hyl]; exact C8 _)]
    have Rd0:=(Rg5.same s59).pick (is:=hsO (aE c xs) b) λ i hi=>by rw [hxl]; exact hhm i hi
    have hdl:((hsO (aE c xs) b).map λ k=>gs.getD k 0).length=e - f:=by rw [C6]; exact hhl
    have eR:(hsO (aE c xs) b).map (λ i=>xs.getD i [])=hsR b c xs:=rfl
    rw [eR] at Rd0
    generalize ((hsO (aE c xs) b).map λ k=>gs.getD k 0)=ds at Rd0 hdl
    have sA:=(MW H9').new (o:=.lst (ds.map MU)) hd
    have td:(upd H9' d (.lst (ds.map MU))) d=some (.lst (ds.map MU)):=ab
    have WA:=ij W9 (λ c o h _=>sA c o h) λ q xs h=>sA _ _ h
    have hld:l≠d:=ae ((s45.trans s59) _ _ tl4) hd
    generalize upd H9' d (.lst (ds.map MU))=HA at sA td WA
    have s4A:=(s45.trans s59).trans sA
    have tlA:=s4A _ _ tl4
    have RdA:=Rd0.same sA
    nofun
    refine ⟨l,d,_,_,_,_,rfl,rfl,rfl,rfl,tlA,td,hld,by lia,by lia,by rw [C6]; lia,aL (by rw [C6,C6]; lia),?_⟩
    have espl:(rs.map MU).take ((f:Nat):Int).toNat++ds.map MU++(rs.map MU).drop ((e:Nat):Int).toNat=(rs.take f++ds++rs.drop e).map MU:=by
     rw [Eb,Eb,Dr,Dr,Fn,Fo]
    rw [espl]
    have RB:=(R4.same s4A).put RdA (f:=f) (l:=e) (by lia) (by lia)
    have sB:=(s4.trans s4A).own (o:=.lst ((rs.take f++ds++rs.drop e).map MU)) hln
    have tlB:(upd HA l (.lst ((rs.take f++ds++rs.drop e).map MU))) l=some (.lst ((rs.take f++ds++rs.drop e).map MU)):=ab
    have RB2:RowsT (upd HA l (.lst ((rs.take f++ds++rs.drop e).map MU))) (rs.take f++ds++rs.drop e) (RS.take f++hsR b c xs++RS.drop e):=RB.own tlA
    have tstB:(upd HA l (.lst ((rs.take f++ds++rs.drop e).map MU))) st=some (.lst (zs.map MU)):=by rw [af (DX hls)]; exact s4A _ _ tst4
    have TZB:TrAt (upd HA l (.lst ((rs.take f++ds++rs.drop e).map MU))) zs sts:=(TZ4.same s4A).own tlA
    have tl7:H7 l=some (.lst (rs.map MU)):=(s45.trans s7) _ _ tl4
    have WB:HwAt t.aa (upd HA l (.lst ((rs.take f++ds++rs.drop e).map MU))) wk pa ma ea us hv (oA (aE c xs) b):=ij WA (λ c o h z=>by
     have:c≠l:=by
      rintro rfl
      rcases z with z | z | z | z
      ·rw [z,hwk] at tl7; cases tl7
      ·rw [z,hpk] at tl7; cases tl7
      ·rw [z,hmk] at tl7; cases tl7
      ·rw [z,hek] at tl7; cases tl7
     rw [af this]; exact h) λ q xs h=>by rw [af (cB h tlA (λ z=>nomatch z))]; exact h
    generalize upd HA l (.lst ((rs.take f++ds++rs.drop e).map MU))=HB at sB tlB RB2 tstB TZB WB
    nofun
    obtain ⟨dxB,obB⟩:=WB.ob
    refine ⟨wk,dxB,_,rfl,obB,sM.2.1,?_⟩
    refine ⟨wk,pa,ma,ea,us,hv,_,rfl,WB,?_⟩
    nofun
    have ep:((pz:Nat):Int)+((oA (aE c xs) b).pt:Nat)=((pz+hpO (aE c xs) b:Nat):Int):=by unfold hpO; lia
    rw [ep]
    exact ⟨sB,tstB,TZB,⟨_,tlB,RB2⟩,_,_,_,_,_,rfl⟩
   ·rintro σ H4 ⟨s4,tst4,TZ4,⟨rs,tl4,R4⟩,v1,v2,v3,v4,v5,rfl⟩
    rw [C6,Da (by rw [TZ.1]; exact C8 _)] at R4
    rw [C6,Da (by rw [TZ.1]; exact C8 _)]
    rw [hd1] at R4
    rw [hd2]
    nofun
    refine ⟨aL (by simp),λ t' ht'=>?_⟩
    exact k t' l rs os _ (s4.free ht') hln (s4.new ht') ab (by rw [af (ae tl4 ht')]; exact tl4) (R4.same ((MW H4).new ht')) hop hpw
def PrG (g:Nat->V) (H:Hp) (v:V) (o:PR):Prop:=match o with | none=>v=.non | some z=>∃ q,v=.ref q/\H q=some (.tup [.int (z.1:Nat),g z.2])
def PrsG (g:Nat->V) (H:Hp) (vs:List V) (ps:List PR):Prop:=vs.length=ps.length/\∀ (i:Nat) v o,vs[i]? = some v->ps[i]? = some o->PrG g H v o
def PsG (g:Nat->V) (H:Hp) (rs:List Addr) (qs:List (Nat×Nat)):Prop:=rs.length=qs.length/\∀ (i:Nat) a z,rs[i]? = some a->qs[i]? = some z->H a=some (.tup [.int (z.1:Nat),g z.2])
theorem PsG.same {g:Nat->V} {H:Hp} {qs:List (Nat×Nat)} (h:PsG g H rs qs) (s:Same H H1):PsG g H1 rs qs:=⟨h.1,λ i a z x y=>s _ _ (h.2 i a z x y)⟩
theorem PsG.prs {g:Nat->V} {H:Hp} {qs:List (Nat×Nat)} (h:PsG g H rs qs):PrsG g H (rs.map MU) (qs.map some):=by
 refine ⟨by rw [C6,C6,h.1],λ i v o a b=>?_⟩
 rw [De] at a b
 cases e1:rs[i]? with
 | none=>rw [e1] at a; cases a
 | some r=>
  cases e2:qs[i]? with
  | none=>rw [e2] at b; cases b
  | some z=>rw [e1] at a; rw [e2] at b; cases a; cases b; exact ⟨r,rfl,h.2 i r z e1 e2⟩
theorem PrG.same {g:Nat->V} {H:Hp} {o:PR} (h:PrG g H v o) (s:Same H H1):PrG g H1 v o:=by
 cases o with
 | none=>exact h
 | some z=>obtain ⟨q,e,t⟩:=h; exact ⟨q,e,s _ _ t⟩
theorem PrsG.same {g:Nat->V} {H H1:Hp} {vs:List V} {ps:List PR} (h:PrsG g H vs ps) (s:Same H H1):PrsG g H1 vs ps:=⟨h.1,λ i v o a b=>(h.2 i v o a b).same s⟩
theorem PrsG.get {g:Nat->V} {H:Hp} {ps:List PR} (h:PrsG g H vs ps) {p:Nat} (hp:p<ps.length):∃ v,vs[p]? = some v/\PrG g H v (ps.getD p none):=by
 have h1:p<vs.length:=by rw [h.1]; exact hp
 refine ⟨vs[p],C4 h1,h.2 p _ _ (C4 h1) ?_⟩
 rw [C5,C4 hp]; rfl
theorem PrsG.set {g:Nat->V} {H:Hp} {vs:List V} {ps:List PR} (h:PrsG g H vs ps) {p:Nat} {v:V} {o:PR} (hv:PrG g H v o):PrsG g H (vs.set p v) (ps.set p o):=by
 refine ⟨by rw [Ew,Ew,h.1],λ i v' o' a b=>?_⟩
 by_cases e:p=i
 ·subst e
  by_cases l:p<vs.length
  ·rw [EH l] at a
   rw [EH (by rw [<-h.1]; exact l)] at b
   cases a; cases b
   exact hv
  ·rw [Ea (by rw [Ew]; lia)] at a; cases a
 ·rw [FJ e] at a b
  exact h.2 i v' o' a b
noncomputable def fD (os:List Nat) (b:Nat):List (Nat×Nat):=(C9 b).map λ f=>(ai os f,ai os (f+1))
theorem jM {os:List Nat} (h:f<b):(fD os b)[f]? = some (ai os f,ai os (f+1)):=by simp [fD,h]
theorem gR (os:List Nat) (b:Nat):(fD os b).length=b:=by simp [fD]
def ye:Sp:=λ vs H Q _=>∃ (g:Nat->V) (a:Addr) (rs:List Addr) (qs:List (Nat×Nat)) (b:Nat),vs=[.ref a,.int (b:Nat)]/\H a=some (.lst (rs.map MU))/\PsG g H rs qs/\qs.length<=200/\b<=64/\∀ (l:Addr) (ts:List Addr) H',H l=none->Same H H'->H' l=some (.lst (ts.map MU))->PsT H' ts (fD (qs.map Dc) b)->Q (.ref l) H'
theorem j5 (T:Tx K mg t):FnOk P w K mg base CX0 1 t.ee t.dY ["_law_pairs","_law_base_here"] ye:=by
 refine T.gW.okQ sc_part_begins (λ vs H Q E h=>?_) (λ cdv A outer s H vs Q E hr h=>?_)
 ·obtain ⟨g,a,rs,qs,b,rfl,_⟩:=h
  rfl
 ·obtain ⟨g,a,rs,qs,b,rfl,ta,R,hn,hb,k⟩:=h
  have hrl:rs.length=qs.length:=R.1
  refine ⟨_,(ac (au (i:=2) sc_part_begins.nd rfl (Di rfl) (bC ad))
   (ac (au (i:=3) sc_part_begins.nd rfl (Di rfl) ag)
   (ac (dC D4 rfl (dB rfl T.c6 (al (qv 1) ad)) (ak (i:=4) sc_part_begins.nd rfl (FE rfl)) (ac (au (i:=5) sc_part_begins.nd rfl (Di rfl) (ay (bt (K:=K)) (by rfl) T.cA bx (al (iT (N:=["_law_pair","_law_figure"]) (tgs:=["_law_pair"]) (frs:=["_law_figure"]) (ix:=[4]) ⟨rfl,by decide +kernel,rfl,by decide +kernel,rfl,rfl,⟨⟨rfl,rfl,_,rfl,rfl⟩,Dv⟩,⟨rfl,Dv⟩,rfl⟩ rfl (bc (K:=K) (qv 0)) (λ _ _ _ _=>(ak (i:=0) (by show DW (["_law_pair","_law_figure"]:List Str); decide +kernel) rfl (Di rfl))) (λ _ _ _ _=>(qv 0)) (λ _ _ _ _=>(aB uz (aC (dD (K:=K)) (qv 0) ag) (qv 1) (aG _)))) ad)))
   (ac (eV (dA (K:=K) (qv 2) (al (bo (al (qv 3) (al (aU cK (qv 3) (qv 5)) ad))) ad)))
   (am (au (i:=3) sc_part_begins.nd rfl (Di rfl) (aU cK (qv 3) (qv 5)))))))
   (am (aD (qv 2)))))),?_⟩
  rw [show L2.start ["_law_pairs","_law_base_here","_law_found","_law_begin","_law_figure","_law_many_here"] [MU a,MS (b:Nat)]=[some (MU a),some (MS (b:Nat)),none,none,none,none] from rfl]
  nofun
  refine ⟨aL (by simp),λ l hl=>?_⟩
  have s1:=(MW H).new (o:=.lst []) hl
  have tl1:(upd H l (.lst [])) l=some (.lst (([]:List Addr).map MU)):=ab
  generalize upd H l (.lst [])=H1 at s1 tl1
  have h0:ai (qs.map Dc) 0=0:=by
   unfold ai
   rw [Ft]
   intro o _
   simp
  nofun
  refine ⟨b,rfl,by lia,by lia,eQ (n:=b) (λ i σ H'=>Same H H'/\(∃ ts:List Addr,H' l=some (.lst (ts.map MU))/\ts.length=i/\PsT H' ts ((fD (qs.map Dc) b).take i))/\∃ v4 v5,σ=[some (MU a),some (MS (b:Nat)),some (MU l),some (MS ((ai (qs.map Dc) i:Nat):Int)),v4,v5]) ⟨s1,⟨[],tl1,rfl,rfl,λ i a z h=>by simp at h⟩,_,_,by rw [h0]; rfl⟩ ?_ ?_⟩
  ·rintro f σ H2 hf ⟨s2,⟨ts,tl2,htl,hP⟩,v4,v5,rfl⟩
   have ta2:=s2 _ _ ta
   have R2:=R.same s2
   nofun
   refine ⟨a,rfl,⟨_,MQ ta2⟩,jo (a:=a) (vs:=rs.map MU) (λ i ys σ H'=>H'=H2/\ys.length=((qs.map Dc).take i).count f/\∃ v,σ=[v,some (MS (0+(f:Int)))]) (by rw [C6]; exact ap (by lia)) (λ i ys σ H' h=>by rw [h.2.1]; exact D9 List.count_le_length (by rw [Df]; lia)) (λ i ys σ H' h=>by rw [h.1]; exact MQ ta2) ⟨rfl,rfl,none,rfl⟩ ?_ ?_⟩
   ·rintro i ys σ H3 x hx ⟨rfl,hyl,v,rfl⟩
    have hil:=aR hx
    obtain ⟨q,rfl,hq,_,hir⟩:=aQ hx
    have hiq:i<qs.length:=by lia
    have eq:qs[i]? = some qs[i]:=C4 hiq
    have tq:=R2.2 i q _ hq eq
    nofun
    by_cases gf:qs[i].1=f
    ·have g2:MS ((qs[i].1:Nat):Int)=MS (0+(f:Int)):=by rw [gf]; congr 1; lia
     rw [decide_eq_true g2]
     nofun
     refine MX hil ⟨rfl,?_,_,rfl⟩
     rw [lC eq,Fj,Dg,hyl,gf]; simp
    ·have g2:¬ MS ((qs[i].1:Nat):Int)=MS (0+(f:Int)):=λ z=>by
      have:=MS.inj z
      exact gf (by lia)
     rw [decide_eq_false g2]
     nofun
     refine MX hil ⟨rfl,?_,_,rfl⟩
     rw [lC eq,Fj,hyl,List.count_singleton,if_neg (by simpa using gf),FS]
   ·rintro ys σ H3 ⟨rfl,hyl,v,rfl⟩ c hc
    rw [Da (by rw [C6,C6]; lia)] at hyl
    have s3:=s2.new (o:=.lst ys) hc
    have s23:=(MW H3).new (o:=.lst ys) hc
    have tc:(upd H3 c (.lst ys)) c=some (.lst ys):=ab
    have hlc:l≠c:=ae tl2 hc
    have tl3:=s23 _ _ tl2
    generalize upd H3 c (.lst ys)=H4 at s3 s23 tc tl3
    nofun
    refine bb (MQ tc) ?_
    rw [hyl]
    nofun
    refine ⟨cj tl3,?_⟩
    have em:((ai (qs.map Dc) f:Nat):Int)+(((qs.map Dc).count f:Nat):Int)=((ai (qs.map Dc) (f+1):Nat):Int):=by rw [aM]; lia
    nofun
    rw [em]
    refine ⟨aL (by simp),λ t ht=>?_⟩
    have s4:=s3.new (o:=.tup [MS ((ai (qs.map Dc) f:Nat):Int),MS ((ai (qs.map Dc) (f+1):Nat):Int)]) ht
    have s34:=(MW H4).new (o:=.tup [MS ((ai (qs.map Dc) f:Nat):Int),MS ((ai (qs.map Dc) (f+1):Nat):Int)]) ht
    have tt:(upd H4 t (.tup [MS ((ai (qs.map Dc) f:Nat):Int),MS ((ai (qs.map Dc) (f+1):Nat):Int)])) t=some (.tup [MS ((ai (qs.map Dc) f:Nat):Int),MS ((ai (qs.map Dc) (f+1):Nat):Int)]):=ab
    generalize upd H4 t (.tup [MS ((ai (qs.map Dc) f:Nat):Int),MS ((ai (qs.map Dc) (f+1):Nat):Int)])=H5 at s4 s34 tt
    have tl5:=s34 _ _ tl3
    nofun
    refine bS tl5 (by rw [C6,htl]; exact ap (by lia)) ?_
    nofun
    rw [em]
    have htl5:t≠l:=cB tt tl5 (by intro z; cases z)
    refine ⟨s4.own hl,⟨ts++[t],by rw [ab,Dr]; rfl,by simp [htl],?_⟩,_,_,rfl⟩
    have e2:(fD (qs.map Dc) b).take (f+1)=(fD (qs.map Dc) b).take f++[(ai (qs.map Dc) f,ai (qs.map Dc) (f+1))]:=by rw [Dz,jM hf]; rfl
    rw [e2]
    refine PsT.snoc ⟨hP.1,λ i u z x y=>?_⟩ (by rw [af htl5]; exact tt)
    have z9:=s34 _ _ (s23 _ _ (hP.2 i u z x y))
    rw [af (cB z9 tl5 (by intro z; cases z))]; exact z9
  ·rintro σ H2 ⟨s2,⟨ts,tl2,htl,hP⟩,v4,v5,rfl⟩
   rw [Da (by rw [gR]; exact C8 _)] at hP
   nofun
   exact k l ts H2 hl s2 tl2 hP
structure LwAt (g:Nat->V) (H:Hp) (sa pl ml pt:Addr) (us:List V) (hv:V) (ts:List Addr) (os:List Nat) (b:Nat) (st:HW):Prop where
 t0:H sa=some (.lst [.ref pl,hv,.ref ml,.ref pt,.int (st.pt:Nat)])
 tp:H pl=some (.lst us)
 pv:PrsG g H us st.ps
 hh:PrG g H hv st.hd
 tm:H ml=some (.lst (NV st.mks))
 tt:H pt=some (.lst (ts.map MU))
 pp:PsT H ts (fD os b)
 en:st.en=(C9 b).map λ f=>ai os (f+1)
 n1:sa≠pl
 n2:sa≠ml
 n3:pl≠ml
 n4:pt≠sa
 n5:pt≠pl
 n6:pt≠ml
section
variable {g:Nat->V} {H H1:Hp} {sa pl ml pt:Addr} {us:List V} {hv:V} {ts:List Addr} {os:List Nat} {b:Nat} {st:HW}
theorem LwAt.same (h:LwAt g H sa pl ml pt us hv ts os b st) (s:Same H H1):LwAt g H1 sa pl ml pt us hv ts os b st:=
 ⟨s _ _ h.t0,s _ _ h.tp,h.pv.same s,h.hh.same s,s _ _ h.tm,s _ _ h.tt,h.pp.same s,h.en,h.n1,h.n2,h.n3,h.n4,h.n5,h.n6⟩
theorem LwAt.ktup (h:LwAt g H sa pl ml pt us hv ts os b st) (k:KpH sa pl ml H H1) (t:H q=some (.tup xs)):H1 q=some (.tup xs):=
 k _ _ t (cB t h.t0 (by intro z; cases z)) (cB t h.tp (by intro z; cases z)) (cB t h.tm (by intro z; cases z))
theorem LwAt.kv (h:LwAt g H sa pl ml pt us hv ts os b st) (k:KpH sa pl ml H H1) {o:PR} (p:PrG g H v o):PrG g H1 v o:=by
 cases o with
 | none=>exact p
 | some z=>obtain ⟨q,e,t⟩:=p; exact ⟨q,e,h.ktup k t⟩
theorem LwAt.kvs (h:LwAt g H sa pl ml pt us hv ts os b st) (k:KpH sa pl ml H H1) {ws:List V} {ps:List PR} (p:PrsG g H ws ps):PrsG g H1 ws ps:=⟨p.1,λ i v o a c=>h.kv k (p.2 i v o a c)⟩
theorem LwAt.kpp (h:LwAt g H sa pl ml pt us hv ts os b st) (k:KpH sa pl ml H H1):PsT H1 ts (fD os b):=⟨h.pp.1,λ i q z a c=>h.ktup k (h.pp.2 i q z a c)⟩
theorem LwAt.upM (h:LwAt g H sa pl ml pt us hv ts os b st) :KpH sa pl ml H (upd H ml o):=λ c u e _ _ n=>by rw [af n]; exact e
theorem LwAt.upP (h:LwAt g H sa pl ml pt us hv ts os b st) :KpH sa pl ml H (upd H pl o):=λ c u e _ n _=>by rw [af n]; exact e
theorem LwAt.upS (h:LwAt g H sa pl ml pt us hv ts os b st) :KpH sa pl ml H (upd H sa o):=λ c u e n _ _=>by rw [af n]; exact e
theorem LwAt.setM (h:LwAt g H sa pl ml pt us hv ts os b st) (ms:List Nat):LwAt g (upd H ml (.lst (NV ms))) sa pl ml pt us hv ts os b { st with mks:=ms }:=
 ⟨by rw [af h.n2]; exact h.t0,by rw [af h.n3]; exact h.tp,h.kvs h.upM h.pv,h.kv h.upM h.hh,ab,by rw [af h.n6]; exact h.tt,h.kpp h.upM,h.en,h.n1,h.n2,h.n3,h.n4,h.n5,h.n6⟩
theorem LwAt.setP (h:LwAt g H sa pl ml pt us hv ts os b st) {ws:List V} {ps:List PR} (hw:PrsG g H ws ps):LwAt g (upd H pl (.lst ws)) sa pl ml pt ws hv ts os b { st with ps:=ps }:=
 ⟨by rw [af h.n1]; exact h.t0,ab,h.kvs h.upP hw,h.kv h.upP h.hh,by rw [af (DX h.n3)]; exact h.tm,by rw [af h.n5]; exact h.tt,h.kpp h.upP,h.en,h.n1,h.n2,h.n3,h.n4,h.n5,h.n6⟩
theorem LwAt.setS (h:LwAt g H sa pl ml pt us hv ts os b st) {o:PR} (hw:PrG g H v o):LwAt g (upd H sa (.lst [.ref pl,v,.ref ml,.ref pt,.int (n:Nat)])) sa pl ml pt us v ts os b { st with hd:=o,pt:=n }:=
 ⟨ab,by rw [af (DX h.n1)]; exact h.tp,h.kvs h.upS h.pv,h.kv h.upS hw,by rw [af (DX h.n2)]; exact h.tm,by rw [af h.n4]; exact h.tt,h.kpp h.upS,h.en,h.n1,h.n2,h.n3,h.n4,h.n5,h.n6⟩
theorem LwAt.eg (h:LwAt g H sa pl ml pt us hv ts os b st) (hf:f<b):st.en.getD f 0=ai os (f+1):=by
 rw [h.en,C5,De,Eg hf]; rfl
theorem LwAt.el (h:LwAt g H sa pl ml pt us hv ts os b st):st.en.length=b:=by rw [h.en]; simp
theorem LwAt.part (h:LwAt g H sa pl ml pt us hv ts os b st) (hf:f<b):∃ q,(ts.map MU)[f]? = some (MU q)/\H q=some (.tup [.int (ai os f:Nat),.int (st.en.getD f 0:Nat)]):=by
 have hl:f<ts.length:=by rw [h.pp.1,gR]; exact hf
 refine ⟨ts[f],by rw [De,C4 hl]; rfl,?_⟩
 rw [h.eg hf]
 exact h.pp.2 f _ _ (C4 hl) (jM hf)
end
theorem mN {K:C7} {σ:L2.St} {H:Hp} {i1 i2 i3 i4 i5:Nat} {p:Addr} {x1 x2 x3 x4 x5:V} {R:L2.St->Hp->Prop} (e:H p=some (.lst [x1,x2,x3,x4,x5])) (h:R (((((σ.set i1 (some x1)).set i2 (some x2)).set i3 (some x3)).set i4 (some x4)).set i5 (some x5)) H) :
  zG K 5 (iJ (eO i1) (iJ (eO i2) (iJ (eO i3) (iJ (eO i4) (iJ (eO i5) yN))))) (.ref p) σ H R:=
 ⟨p,_,rfl,MQ e,rfl,_,_,rfl,_,_,rfl,_,_,rfl,_,_,rfl,_,_,rfl,rfl,h⟩
def yf:Sp:=λ vs H Q _=>∃ (g:Nat->V) (sa pl ml pt:Addr) (us:List V) (hv:V) (ts:List Addr) (os:List Nat) (b:Nat) (st:HW) (f:Nat),vs=[.ref sa,.int (f:Nat)]/\LwAt g H sa pl ml pt us hv ts os b st/\HwB st/\f<b/\
 ∀ H',LwAt g H' sa pl ml pt us hv ts os b (st.marked f)->(∀ c o,H c=some o->c≠ml->H' c=some o)->Q (.int (st.mark f:Nat)) H'
theorem sP (T:Tx K mg t):FnOk P w K mg base CX0 1 t.tP t.tG ["_law_state_here","_law_figure"] yf:=by
 refine T.sV.okQ sc_mark (λ vs H Q E h=>?_) (λ cdv A outer s H vs Q E hr h=>?_)
 ·obtain ⟨gg,sa,pl,ml,pt,us,hv,ts,os,b,st,f,rfl,_⟩:=h
  rfl
 ·obtain ⟨gg,sa,pl,ml,pt,us,hv,ts,os,b,st,f,rfl,W,B,hf,k⟩:=h
  have hfe:f<st.en.length:=by rw [W.el]; exact hf
  have hfm:f<st.mks.length:=by rw [B.ml]; exact hfe
  obtain ⟨b1,b2⟩:=B.mb f hfe
  obtain ⟨qf,eqf,tqf⟩:=W.part hf
  refine ⟨_,(ac (jn (qv 0) (qO (K:=K) (n:=5) rfl (aq (ak (i:=2) sc_mark.nd rfl (Di rfl)) (aq (ak (i:=3) sc_mark.nd rfl (Di rfl)) (aq (ak (i:=4) sc_mark.nd rfl (Di rfl)) (aq (ak (i:=5) sc_mark.nd rfl (Di rfl)) (aq (ak (i:=6) sc_mark.nd rfl (Di rfl)) bE)))))))
   (ac (au (i:=7) sc_mark.nd rfl (Di rfl) (aC (bg (K:=K)) (qv 4) (qv 1)))
   (ac (dL D4 (QW.qt (ki (aB vw (qv 7) (aC (dD (K:=K)) (aC (bg (K:=K)) (qv 5) (qv 1)) ag) (aG _)) (ki (aB on (aC (bg (K:=K)) (qv 2) (qv 7)) c7 (aG _)) (jj (aB uz (aC (dD (K:=K)) (aC (bg (K:=K)) (qv 2) (qv 7)) ag) (qv 1) (aG _)))))) (am (au (i:=7) sc_mark.nd rfl (Di rfl) (aU cK (qv 7) ag))))
   (ac (cJ (qv 7) (qv 4) (qv 1))
   (am (aD (qv 7))))))),?_⟩
  rw [show L2.start ["_law_state_here","_law_figure","_law_places","_law_held","_law_marks","_law_parts","_law_laid","_law_at"] [MU sa,MS (f:Nat)]=[some (MU sa),some (MS (f:Nat)),none,none,none,none,none,none] from rfl]
  nofun
  refine mN W.t0 ?_
  dsimp only [EU]
  nofun
  refine br (MQ W.tm) (v:=MS (st.mks.getD f 0:Nat)) (aO (cL (lj hfm))) ?_
  nofun
  refine ⟨λ mm σ H'=>∃ p:Nat,mm=st.en.getD f 0 - p/\p<=st.en.getD f 0/\H=H'/\goF st.ps f (st.en.getD f 0) p=st.mark f/\σ=[some (MU sa),some (MS (f:Nat)),some (MU pl),some hv,some (MU ml),some (MU pt),some (MS (st.pt:Nat)),some (MS (p:Nat))],⟨_,_,rfl,b1,rfl,rfl,rfl⟩,?_⟩
  rintro mm σ H' ⟨p,rfl,hp,rfl,e1,rfl⟩
  have fin:st.mark f=p->Q (.int (p:Nat)) (upd H ml (.lst (NV (st.mks.set f p)))):=λ e=>by
   have:=k _ (W.setM (st.mks.set f (st.mark f))) (λ c o e n=>by rw [af n]; exact e)
   rw [e] at this
   exact this
  nofun
  refine br (MQ W.tt) (v:=MU qf) (aO eqf) ?_
  nofun
  refine aY (λ g=>?_) (λ g=>?_)
  ·obtain ⟨v,hv1,hv2⟩:=W.pv.get (p:=p) (by lia)
   nofun
   refine br (MQ W.tp) (v:=v) (aO hv1) ?_
   have hF:isF st.ps f p=AJ f (st.ps.getD p none):=rfl
   cases e:st.ps.getD p none with
   | none=>
    rw [e] at hv2 hF
    have hv3:v=.non:=hv2
    rw [dO (λ z=>by rw [hF] at z; cases z.2)] at e1
    nofun
    rw [decide_eq_true hv3]
    nofun
    refine cg W.tm (j:=f) (ci rfl (by rw [ax]; exact hfm)) ?_
    rw [fy]
    nofun
    exact fin e1.symm
   | some z=>
    rw [e] at hv2 hF
    obtain ⟨q,ev,tq⟩:=hv2
    subst ev
    nofun
    rw [decide_eq_false (show ¬ MU q=MV from λ z=>by cases z)]
    nofun
    refine br (MQ W.tp) (v:=MU q) (aO hv1) ?_
    nofun
    by_cases gz:z.1=f
    ·rw [decide_eq_true (show MS ((z.1:Nat):Int)=MS ((f:Nat):Int) by rw [gz])]
     nofun
     refine ⟨_,λ _ _ z=>z,?_⟩
     nofun
     refine ⟨st.en.getD f 0 - (p+1),by lia,p+1,rfl,by lia,rfl,?_,rfl⟩
     rw [<-rE (by lia) (by rw [hF]; exact decide_eq_true gz)]; exact e1
    ·rw [decide_eq_false (show ¬ MS ((z.1:Nat):Int)=MS ((f:Nat):Int) from λ y=>gz (by have:=MS.inj y; lia))]
     rw [dO (λ y=>by rw [hF] at y; exact gz (of_decide_eq_true y.2))] at e1
     nofun
     refine cg W.tm (j:=f) (ci rfl (by rw [ax]; exact hfm)) ?_
     rw [fy]
     nofun
     exact fin e1.symm
  ·rw [dO (λ z=>by lia)] at e1
   nofun
   refine cg W.tm (j:=f) (ci rfl (by rw [ax]; exact hfm)) ?_
   rw [fy]
   nofun
   exact fin e1.symm
def yg:Sp:=λ vs H Q _=>∃ (g:Nat->V) (sa pl ml pt:Addr) (us:List V) (hv:V) (ts:List Addr) (os:List Nat) (b:Nat) (st:HW) (qs:List (Nat×Nat)),vs=[.ref sa]/\LwAt g H sa pl ml pt us hv ts os b st/\HwOk qs b st/\(∀ q∈qs,q.1<b)/\b<=64/\
 ∀ (v:V) (us':List V) (hv':V) H',LwAt g H' sa pl ml pt us' hv' ts os b st.step.2->KpH sa pl ml H H'->MvV H' v st.step.1->Q v H'
theorem iG (T:Tx K mg t):FnOk P w K mg base CX0 2 t.fZ t.fX ["_law_state_here"] yg:=by
 refine T.fR.okQ sc_next_move (λ vs H Q E h=>?_) (λ cdv A outer s H vs Q E hr h=>?_)
 ·obtain ⟨gg,sa,pl,ml,pt,us,hv,ts,os,b,st,qs,rfl,_⟩:=h
  rfl
 ·obtain ⟨gg,sa,pl,ml,pt,us,hv,ts,os,b,st,qs,rfl,W,O,hq,hb,k⟩:=h
  have hhv:=W.hh
  have hel:=W.el
  have htl:ts.length=b:=by rw [W.pp.1,gR]
  refine ⟨_,(ac (jn (qv 0) (qO (K:=K) (n:=5) rfl (aq (ak (i:=1) sc_next_move.nd rfl (Di rfl)) (aq (ak (i:=2) sc_next_move.nd rfl (Di rfl)) (aq (ak (i:=3) sc_next_move.nd rfl (Di rfl)) (aq (ak (i:=4) sc_next_move.nd rfl (Di rfl)) (aq (ak (i:=5) sc_next_move.nd rfl (Di rfl)) bE)))))))
   (ac (di (aB uD (qv 2) c7 (aG _)) (ac (dC D4 rfl (dB rfl T.c6 (al (ay (bt (K:=K)) (by rfl) T.cA bx (al (qv 4) ad)) ad)) (ak (i:=6) sc_next_move.nd rfl (Di rfl)) (ac (au (i:=7) sc_next_move.nd rfl (Di rfl) (av (sP T) (hr.mono (by decide)) rfl T.vZ T.sV.kp T.vY aK (al (qv 0) (al (qv 6) ad))))
   (am (di (aB vw (qv 7) (aC (dD (K:=K)) (aC (bg (K:=K)) (qv 4) (qv 6)) ag) (aG _)) (ac (cJ (aC (bg (K:=K)) (qv 1) (qv 7)) (qv 0) ag)
   (ac (cJ c7 (qv 1) (qv 7))
   (am (aD (bo (al kh (al (qv 7) ad))))))) bP))))
   (am (aD c7))) bP)
   (ac (au (i:=7) sc_next_move.nd rfl (Di rfl) (av (sP T) (hr.mono (by decide)) rfl T.vZ T.sV.kp T.vY aK (al (qv 0) (al (aC (dD (K:=K)) (qv 2) ag) ad))))
   (ac (au (i:=8) sc_next_move.nd rfl (Di rfl) (aC (bg (K:=K)) (qv 1) (qv 7)))
   (ac (cJ (qv 2) (qv 1) (qv 7))
   (ac (cJ (qv 8) (qv 0) ag)
   (ac (cJ (aU cK (qv 7) ag) (qv 3) (aC (dD (K:=K)) (qv 2) ag))
   (ac (cJ (aU cK (qv 5) ag) (qv 0) ag)
   (am (aD (bo (al (aC (bg (K:=K)) (bC (al kh (al kh ad))) (aV qM (by rfl) T.pU sr (al (fJ uD (qv 8) c7 (aG _)) ad))) (al (qv 7) ad))))))))))))),?_⟩
  rw [show L2.start ["_law_state_here","_law_places","_law_held","_law_marks","_law_parts","_law_laid","_law_figure","_law_at","_law_there"] [MU sa]=[some (MU sa),none,none,none,none,none,none,none,none] from rfl]
  nofun
  refine mN W.t0 ?_
  dsimp only [EU]
  nofun
  cases e:st.hd with
  | none=>
   have es:st.step=((st.takeG st.en.length 0).1.map Mv.take,(st.takeG st.en.length 0).2):=by unfold HW.step; rw [e]
   rw [es] at k
   rw [e] at hhv
   have hv3:hv=.non:=hhv
   rw [decide_eq_true hv3]
   nofun
   refine bb (MQ W.tt) ?_
   rw [C6,htl]
   nofun
   refine ⟨b,rfl,by lia,by lia,eQ (n:=b) (λ i σ H'=>∃ s1:HW,LwAt gg H' sa pl ml pt us hv ts os b s1/\HwB s1/\s1.en=st.en/\s1.takeG (b - i) i=st.takeG st.en.length 0/\KpH sa pl ml H H'/\∃ v6 v7 v8,σ=[some (MU sa),some (MU pl),some hv,some (MU ml),some (MU pt),some (MS (st.pt:Nat)),v6,v7,v8]) ⟨st,W,O.bd,rfl,by rw [hel]; rfl,KpH.refl _ _ _ _,_,_,_,rfl⟩ ?_ ?_⟩
   ·rintro i σ H1 hi ⟨s1,W1,B1,e1,eG,K1,v6,v7,v8,rfl⟩
    have hi1:i<s1.en.length:=by rw [e1,hel]; exact hi
    rw [Int.zero_add]
    nofun
    refine ⟨_,sa,pl,ml,pt,us,hv,ts,os,b,s1,i,rfl,W1,B1,hi,λ H2 W2 kp2=>?_⟩
    have K2:KpH sa pl ml H H2:=λ c o e x y z=>kp2 _ _ (K1 c o e x y z) z
    obtain ⟨qf,eqf,tqf⟩:=W2.part hi
    have hge:b - i=(b - (i+1))+1:=by lia
    rw [hge,HW.takeG] at eG
    have tqf':H2 qf=some (.tup [.int (ai os i:Nat),.int (s1.en.getD i 0:Nat)]):=tqf
    nofun
    refine br (MQ W2.tt) (v:=MU qf) (aO eqf) ?_
    nofun
    refine aY (λ g=>?_) (λ g=>?_)
    ·have hg:s1.mark i<s1.en.getD i 0:=by lia
     rw [if_pos hg] at eG
     have hpl:s1.mark i<s1.ps.length:=Ds hg (B1.mb i hi1).2
     obtain ⟨v,hv1,hv2⟩:=W2.pv.get (p:=s1.mark i) hpl
     nofun
     refine br (MQ W2.tp) (v:=v) (aO hv1) ?_
     nofun
     refine cg W2.t0 (j:=1) (ci rfl (by simp)) ?_
     have W3:=W2.setS (n:=(s1.marked i).pt) hv2
     have K3:=K2.trans (W2.upS (o:=.lst [.ref pl,v,.ref ml,.ref pt,.int ((s1.marked i).pt:Nat)]))
     generalize eH3:upd H2 sa (.lst [.ref pl,v,.ref ml,.ref pt,.int ((s1.marked i).pt:Nat)])=H3 at W3 K3
     rw [show upd H2 sa (.lst ([MU pl,hv,MU ml,MU pt,MS ((s1.marked i).pt:Nat)].set 1 v))=H3 from eH3]
     clear eH3
     nofun
     refine cg W3.tp (j:=s1.mark i) (ci rfl (by rw [W3.pv.1]; exact hpl)) ?_
     have W4:=W3.setP (W3.pv.set (p:=s1.mark i) (v:=.non) (o:=none) rfl)
     have K4:=K3.trans (W3.upP (o:=.lst (us.set (s1.mark i) .non)))
     generalize upd H3 pl (.lst (us.set (s1.mark i) .non))=H4 at W4 K4
     nofun
     refine ⟨aL (by simp),λ q hq=>?_⟩
     have s5:=(MW H4).new (o:=.tup [MT "take",MS (s1.mark i:Nat)]) hq
     refine k (.ref q) (us.set (s1.mark i) .non) v _ ?_ (K4.trans (KpH.of s5)) ?_
     ·rw [<-eG]
      exact W4.same s5
     ·rw [<-eG]
      exact ⟨q,rfl,ab⟩
    ·have hg:¬ s1.mark i<s1.en.getD i 0:=by lia
     rw [if_neg hg] at eG
     nofun
     exact ⟨s1.marked i,W2,B1.marked hi1,e1,eG,K2,_,_,_,rfl⟩
   ·rintro σ H1 ⟨s1,W1,B1,e1,eG,K1,v6,v7,v8,rfl⟩
    rw [FT,HW.takeG] at eG
    nofun
    exact k .non us hv H1 (by rw [<-eG]; exact W1) K1 (by rw [<-eG]; exact rfl)
  | some z=>
   have es:st.step=(some (match st.ps.getD (st.mark z.1) none with | none=>Mv.lay (st.mark z.1) | some _=>MY (st.mark z.1)),st.putG z):=by first | (unfold HW.step; rw [e]; done) | (unfold HW.step; rw [e]; rfl)
   rw [es] at k
   rw [e] at hhv
   obtain ⟨q0,hv3,tq0⟩:=hhv
   obtain ⟨h1,h2,_⟩:=ju O hq e
   have hfe:z.1<st.en.length:=by rw [hel]; exact h1
   have hfm0:z.1<st.mks.length:=by rw [O.bd.ml]; exact hfe
   rw [decide_eq_false (show ¬ hv=MV from λ z=>by rw [hv3] at z; cases z)]
   subst hv3
   nofun
   refine ⟨_,sa,pl,ml,pt,us,.ref q0,ts,os,b,st,z.1,rfl,W,O.bd,h1,λ H2 W2 kp2=>?_⟩
   have K2:KpH sa pl ml H H2:=λ c o e x y z=>kp2 _ _ e z
   obtain ⟨v,hv1,hv2⟩:=W2.pv.get (p:=st.mark z.1) h2
   have tq2:=W.ktup K2 tq0
   nofun
   refine br (MQ W2.tp) (v:=v) (aO hv1) ?_
   nofun
   refine cg W2.tp (j:=st.mark z.1) (ci rfl (by rw [W2.pv.1]; exact h2)) ?_
   have hq2:PrG gg H2 (.ref q0) (some z):=⟨q0,rfl,tq2⟩
   have W3:=W2.setP (W2.pv.set (p:=st.mark z.1) (v:=.ref q0) (o:=some z) hq2)
   have K3:=K2.trans (W2.upP (o:=.lst (us.set (st.mark z.1) (.ref q0))))
   have hv3:PrG gg (upd H2 pl (.lst (us.set (st.mark z.1) (.ref q0)))) v (st.ps.getD (st.mark z.1) none):=W2.kv W2.upP hv2
   have tq3:=W.ktup K3 tq0
   generalize upd H2 pl (.lst (us.set (st.mark z.1) (.ref q0)))=H3 at W3 K3 hv3 tq3
   nofun
   refine cg W3.t0 (j:=1) (ci rfl (by simp)) ?_
   have W4:=W3.setS (n:=st.pt) hv3
   have K4:=K3.trans (W3.upS (o:=.lst [.ref pl,v,.ref ml,.ref pt,.int (st.pt:Nat)]))
   have tq4:=W.ktup K4 tq0
   generalize eH4:upd H3 sa (.lst [.ref pl,v,.ref ml,.ref pt,.int (st.pt:Nat)])=H4 at W4 K4 tq4
   rw [show upd H3 sa (.lst ([MU pl,MU q0,MU ml,MU pt,MS (({ st.marked z.1 with ps:=(st.marked z.1).ps.set (st.mark z.1) (some z) }:HW).pt:Nat)].set 1 v))=H4 from eH4]
   clear eH4
   have hv4:PrG gg H4 v (st.ps.getD (st.mark z.1) none):=W4.hh
   nofun
   refine cg W4.tm (j:=z.1) (ci rfl (by rw [ax]; show z.1<(st.mks.set z.1 (st.mark z.1)).length; rw [Ew]; exact hfm0)) ?_
   have eM:(NV (st.mks.set z.1 (st.mark z.1))).set z.1 (MS ((st.mark z.1:Int)+1))=NV (st.mks.set z.1 (st.mark z.1+1)):=by
    rw [show ((st.mark z.1:Int)+1)=((st.mark z.1+1:Nat):Int) by lia,fy,LS]
   have W5:=W4.setM (st.mks.set z.1 (st.mark z.1+1))
   have K5:=K4.trans (W4.upM (o:=.lst (NV (st.mks.set z.1 (st.mark z.1+1)))))
   have eH5:upd H4 ml (.lst ((NV (st.mks.set z.1 (st.mark z.1))).set z.1 (MS ((st.mark z.1:Int)+1))))=upd H4 ml (.lst (NV (st.mks.set z.1 (st.mark z.1+1)))):=by rw [eM]
   generalize upd H4 ml (.lst (NV (st.mks.set z.1 (st.mark z.1+1))))=H5 at W5 K5 eH5
   rw [show upd H4 ml (.lst ((NV (st.marked z.1).mks).set z.1 (MS ((st.mark z.1:Int)+1))))=H5 from eH5]
   clear eH5
   have hv5:PrG gg H5 v (st.ps.getD (st.mark z.1) none):=W5.hh
   nofun
   refine cg W5.t0 (j:=4) (ci rfl (by simp)) ?_
   have W6:=W5.setS (n:=st.pt+1) hv5
   have K6:=K5.trans (W5.upS (o:=.lst [.ref pl,v,.ref ml,.ref pt,.int ((st.pt+1:Nat):Int)]))
   have eH6:upd H5 sa (.lst ([MU pl,v,MU ml,MU pt,MS (st.pt:Nat)].set 4 (MS (((st.pt:Nat):Int)+1))))=upd H5 sa (.lst [.ref pl,v,.ref ml,.ref pt,.int ((st.pt+1:Nat):Int)]):=by
    rw [show (((st.pt:Nat):Int)+1)=((st.pt+1:Nat):Int) by lia]; rfl
   generalize upd H5 sa (.lst [.ref pl,v,.ref ml,.ref pt,.int ((st.pt+1:Nat):Int)])=H6 at W6 K6 eH6
   rw [show upd H5 sa (.lst ([MU pl,v,MU ml,MU pt,MS (st.pt:Nat)].set 4 (MS (((st.pt:Nat):Int)+1))))=H6 from eH6]
   clear eH6
   have hv6:PrG gg H6 v (st.ps.getD (st.mark z.1) none):=W6.hh
   nofun
   refine ⟨aL (by simp),λ cl hcl=>?_⟩
   have s7:=(MW H6).new (o:=.lst [MT (EV "change"),MT (EV "lay")]) hcl
   have tcl:(upd H6 cl (.lst [MT (EV "change"),MT (EV "lay")])) cl=some (.lst [MT (EV "change"),MT (EV "lay")]):=ab
   generalize upd H6 cl (.lst [MT (EV "change"),MT (EV "lay")])=H7 at s7 tcl
   have W7:=W6.same s7
   have K7:=K6.trans (KpH.of s7)
   have fin:∀ (m:Mv) (x:Str),(match st.ps.getD (st.mark z.1) none with | none=>Mv.lay (st.mark z.1) | some _=>MY (st.mark z.1))=m->(∀ Hx q,Hx q=some (.tup [MT x,MS (st.mark z.1:Nat)])->MvV Hx (.ref q) (some m))->∀ q,H7 q=none->Q (.ref q) (upd H7 q (.tup [MT x,MS (st.mark z.1:Nat)])):=λ m x em hx q hq=>by
    have s8:=(MW H7).new (o:=.tup [MT x,MS (st.mark z.1:Nat)]) hq
    refine k (.ref q) (us.set (st.mark z.1) (.ref q0)) v _ (W7.same s8) (K7.trans (KpH.of s8)) ?_
    rw [em]
    exact hx _ _ ab
   nofun
   cases eo:st.ps.getD (st.mark z.1) none with
   | none=>
    rw [eo] at hv6
    have hv7:v=.non:=hv6
    rw [decide_eq_true hv7]
    nofun
    refine ⟨aL (by simp),λ q hq=>fin (Mv.lay (st.mark z.1)) "lay" (by rw [eo]) (λ Hx q e=>⟨q,rfl,e⟩) q hq⟩
   | some y=>
    rw [eo] at hv6
    obtain ⟨q9,hv7,_⟩:=hv6
    rw [decide_eq_false (show ¬ v=MV from λ z=>by rw [hv7] at z; cases z)]
    nofun
    refine ⟨aL (by simp),λ q hq=>fin (MY (st.mark z.1)) "change" (by rw [eo]) (λ Hx q e=>⟨q,rfl,e⟩) q hq⟩
def vc:Sp:=λ vs H Q _=>∃ (g:Nat->V) (a:Addr) (rs:List Addr) (qs:List (Nat×Nat)) (b:Nat),vs=[.ref a,.int (b:Nat)]/\H a=some (.lst (rs.map MU))/\PsG g H rs qs/\qs.length<=200/\b<=64/\
 ∀ (sa pl ml pt:Addr) (us:List V) (ts:List Addr) H',H sa=none->H pl=none->H ml=none->H pt=none->LwAt g H' sa pl ml pt us .non ts (qs.map Dc) b (hw0 qs b)->Same H H'->Q (.ref sa) H'
theorem vd (T:Tx K mg t):FnOk P w K mg base CX0 2 t.nH t.nG ["_law_pairs","_law_base_here"] vc:=by
 refine T.sW.okQ sc_state (λ vs H Q E h=>?_) (λ cdv A outer s H vs Q E hr h=>?_)
 ·obtain ⟨gg,a,rs,qs,b,rfl,_⟩:=h
  rfl
 ·obtain ⟨gg,a,rs,qs,b,rfl,ta,R,hn,hb,k⟩:=h
  refine ⟨_,(ac (au (i:=2) sc_state.nd rfl (Di rfl) (av (j5 T) (hr.mono (by decide)) rfl T.lQ T.gW.kp T.lI aK (al (qv 0) (al (qv 1) ad))))
   (am (aD (bC (al (aV (mY (K:=K)) (by rfl) T.gZ jG (al (qv 0) ad)) (al c7 (al (bF (N:=["_law_part"]) (tgs:=["_law_part"]) (frs:=[]) (ix:=[]) ⟨rfl,by decide +kernel,rfl,by decide +kernel,rfl,rfl,Dv,Dv,rfl⟩ rfl (bc (K:=K) (qv 2)) (λ _ _ _ _=>(ak (i:=0) (by show DW (["_law_part"]:List Str); decide +kernel) rfl (Di rfl))) (λ _ _ _ _=>(aC (dD (K:=K)) (qv 0) ag))) (al (qv 2) (al ag ad))))))))),?_⟩
  rw [show L2.start ["_law_pairs","_law_base_here","_law_parts"] [MU a,MS (b:Nat)]=[some (MU a),some (MS (b:Nat)),none] from rfl]
  nofun
  refine ⟨gg,a,rs,qs,b,rfl,ta,R,hn,hb,λ l ts H1 hl s1 tl P=>?_⟩
  have htl:ts.length=b:=by rw [P.1,gR]
  nofun
  refine ⟨a,rs.map MU,rfl,.inl (MQ (s1 _ _ ta)),λ pl hpl=>?_⟩
  have s2:=s1.new (o:=.lst (rs.map MU)) hpl
  have s12:=(MW H1).new (o:=.lst (rs.map MU)) hpl
  have tp2:(upd H1 pl (.lst (rs.map MU))) pl=some (.lst (rs.map MU)):=ab
  have hlp:l≠pl:=ae tl hpl
  generalize upd H1 pl (.lst (rs.map MU))=H2 at s2 s12 tp2
  have tl2:=s12 _ _ tl
  have P2:=P.same s12
  nofun
  refine ⟨l,rfl,⟨_,MQ tl2⟩,bp (a:=l) (vs:=ts.map MU) (λ i ys σ H'=>H'=H2/\ys=NV (((C9 b).map λ f=>ai (qs.map Dc) f).take i)/\i<=ts.length/\∃ v,σ=[v]) (by rw [C6,htl]; exact ap (by lia)) (λ i ys σ H' h=>by rw [h.2.1,ax,Df,C6,DR]; have:=h.2.2.1; lia) (λ i ys σ H' h=>by rw [h.1]; exact MQ tl2) ⟨rfl,rfl,Du _,none,rfl⟩ ?_ ?_⟩
  ·rintro i ys σ H' x hx ⟨rfl,rfl,hi,v,rfl⟩
   have hil:=aR hx
   obtain ⟨q,rfl,hq,_,hiq⟩:=aQ hx
   have hib:i<b:=by lia
   have tq:=P2.2 i q _ hq (jM hib)
   have tq':H' q=some (.tup [.int (ai (qs.map Dc) i:Nat),.int (ai (qs.map Dc) (i+1):Nat)]):=tq
   nofun
   refine MX hil ⟨rfl,?_,hiq,_,rfl⟩
   rw [Dz,De,Eg hib,cM]; rfl
  ·rintro ys σ H' ⟨rfl,rfl,hi,v,rfl⟩ ml hml
   rw [Da (by rw [C6,DR,C6]; lia)]
   have s3:=(MW H').new (o:=.lst (NV ((C9 b).map λ f=>ai (qs.map Dc) f))) hml
   have tm3:(upd H' ml (.lst (NV ((C9 b).map λ f=>ai (qs.map Dc) f)))) ml=some (.lst (NV ((C9 b).map λ f=>ai (qs.map Dc) f))):=ab
   have hpm:pl≠ml:=ae tp2 hml
   have hlm:l≠ml:=ae tl2 hml
   generalize upd H' ml (.lst (NV ((C9 b).map λ f=>ai (qs.map Dc) f)))=H3 at s3 tm3
   nofun
   refine ⟨aL (by simp),λ sa hsa=>?_⟩
   have s4:=(MW H3).new (o:=.lst [MU pl,MV,MU ml,MU l,MS 0]) hsa
   have t4:(upd H3 sa (.lst [MU pl,MV,MU ml,MU l,MS 0])) sa=some (.lst [MU pl,MV,MU ml,MU l,MS 0]):=ab
   have h1:=ae (s3 _ _ tp2) hsa
   have h2:=ae tm3 hsa
   have h3:=ae (s3 _ _ tl2) hsa
   generalize upd H3 sa (.lst [MU pl,MV,MU ml,MU l,MS 0])=H4 at s4 t4
   have s34:=s3.trans s4
   exact k sa pl ml l (rs.map MU) ts H4 (s2.free (s3.free hsa)) (s1.free hpl) (s2.free hml) hl ⟨t4,s34 _ _ tp2,(R.same (s2.trans s34)).prs,rfl,s4 _ _ tm3,s34 _ _ tl2,P2.same s34,rfl,DX h1,DX h2,hpm,h3,hlp,hlm⟩ (s2.trans s34)
theorem PsG.snoc {g:Nat->V} {H:Hp} {qs:List (Nat×Nat)} {z:Nat×Nat} (h:PsG g H rs qs) (e:H a=some (.tup [.int (z.1:Nat),g z.2])):PsG g H (rs++[a]) (qs++[z]):=by
 refine ⟨by simp [h.1],λ i q y a c=>?_⟩
 rcases aN a with ⟨l,a⟩ | ⟨l,a⟩
 ·rcases aN c with ⟨_,c⟩ | ⟨l',c⟩
  ·exact h.2 i q y a c
  ·have:=h.1; lia
 ·rcases aN c with ⟨l',c⟩ | ⟨_,c⟩
  ·have:=h.1; lia
  ·rw [a,c]; exact e
def BU:Sp:=λ vs H Q _=>∃ (a:Addr) (ps:List Addr) (xs:List (List Nat)) (c b:Nat),vs=[.ref a,.int (c:Nat),.int (b:Nat)]/\H a=some (.lst (ps.map MU))/\RowsT H ps xs/\xs.length<=200/\(∀ r∈xs,c<r.length)/\(∀ r∈xs,r.getD c 0<b)/\b<=64/\
 ∀ (t l:Addr) (ds:List Addr) H',H l=none->Same H H'->H' t=some (.tup [.ref l,.int (hpO (aE c xs) b:Nat)])->H' l=some (.lst (ds.map MU))->RowsT H' ds (hsR b c xs)->Q (.ref t) H'
theorem nD (T:Tx K mg t):FnOk P w K mg base CX0 3 t.iw t.iq ["_law_rows_here","_law_column","_law_base_here"] BU:=by
 refine T.kA.okQ sc_l_walked (λ vs H Q E h=>?_) (λ cdv A outer s H vs Q E hr h=>?_)
 ·obtain ⟨a,ps,xs,c,b,rfl,_⟩:=h
  rfl
 ·obtain ⟨a,ps,xs,c,b,rfl,ta,R,hn,hrc,hcol,hb,k⟩:=h
  have hpl:ps.length=xs.length:=R.1
  have hol:(aE c xs).length=xs.length:=bH c xs
  have hqb:=jE (cn hcol)
  obtain ⟨f1,f2,f3⟩:=gK (cn hcol)
  have hhm:∀ i∈hsO (aE c xs) b,i<xs.length:=λ i hi=>by rw [<-hol]; exact DN.mp (f2.mem_iff.mp hi)
  refine ⟨_,(ac (au (i:=3) sc_l_walked.nd rfl (Di rfl) (av (vd T) (hr.mono (by decide)) rfl T.yp T.sW.kp T.ym aK (al (bF (N:=["_law_row","_law_column"]) (tgs:=["_law_row"]) (frs:=["_law_column"]) (ix:=[1]) ⟨rfl,by decide +kernel,rfl,by decide +kernel,rfl,rfl,⟨⟨rfl,rfl,_,rfl,rfl⟩,Dv⟩,⟨rfl,Dv⟩,rfl⟩ rfl (bc (K:=K) (qv 0)) (λ _ _ _ _=>(ak (i:=0) (by show DW (["_law_row","_law_column"]:List Str); decide +kernel) rfl (Di rfl))) (λ _ _ _ _=>(bo (al (aC (dD (K:=K)) (qv 0) (qv 1)) (al (qv 0) ad))))) (al (qv 2) ad))))
   (ac (au (i:=4) sc_l_walked.nd rfl (Di rfl) (av (iG T) (hr.mono (by decide)) rfl T.jT T.fR.kp T.jS aK (al (qv 3) ad)))
   (ac (dL D4 (aB on (qv 4) c7 (aG _)) (am (au (i:=4) sc_l_walked.nd rfl (Di rfl) (av (iG T) (hr.mono (by decide)) rfl T.jT T.fR.kp T.jS aK (al (qv 3) ad)))))
   (am (aD (bo (al (bF (N:=["_law_pair"]) (tgs:=["_law_pair"]) (frs:=[]) (ix:=[]) ⟨rfl,by decide +kernel,rfl,by decide +kernel,rfl,rfl,Dv,Dv,rfl⟩ rfl (bc (K:=K) (aC (bg (K:=K)) (qv 3) ag)) (λ _ _ _ _=>(ak (i:=0) (by show DW (["_law_pair"]:List Str); decide +kernel) rfl (Di rfl))) (λ _ _ _ _=>(aC (dD (K:=K)) (qv 0) ag))) (al (aC (bg (K:=K)) (qv 3) ag) ad)))))))),?_⟩
  rw [show L2.start ["_law_rows_here","_law_column","_law_base_here","_law_state_here","_law_move"] [MU a,MS (c:Nat),MS (b:Nat)]=[some (MU a),some (MS (c:Nat)),some (MS (b:Nat)),none,none] from rfl]
  nofun
  refine ⟨a,rfl,⟨_,MQ ta⟩,bp (a:=a) (vs:=ps.map MU) (λ i ys σ H'=>Same H H'/\(∃ hs:List Addr,ys=hs.map MU/\hs.length=i/\PsG (λ i=>MU (ps.getD i 0)) H' hs ((qsO (aE c xs)).take i))/\∃ v,σ=[v,some (MS (c:Nat))]) (by rw [C6]; exact ap (by lia)) (λ i ys σ H' h=>by obtain ⟨_,⟨hs,rfl,e,_⟩,_⟩:=h; rw [C6,e]) (λ i ys σ H' h=>MQ (h.1 _ _ ta)) ⟨MW _,⟨[],rfl,rfl,rfl,λ i p r h=>by simp at h⟩,none,rfl⟩ ?_ ?_⟩
  ·rintro j ys σ H1 x hx ⟨s1,⟨hs,rfl,hhl,hP⟩,v,rfl⟩
   have hil:=aR hx
   obtain ⟨y,rfl,hy,_,hjy⟩:=aQ hx
   have hjx:j<xs.length:=by lia
   have ty:H1 y=some (.tup (NV xs[j])):=(R.same s1).2 j y _ hy (C4 hjx)
   have hcj:=hrc _ (Dl hjx)
   have eo:(aE c xs).getD j 0=xs[j][c]:=by
    unfold aE
    rw [C5,De,C4 hjx]
    show xs[j].getD c 0=_
    rw [C5,C4 hcj]; rfl
   have ey:ps.getD j 0=y:=by rw [C5,hy]; rfl
   nofun
   refine gr (MR ty) (jX rfl (o:=xs[j][c]) (by simp [hcj])) ?_
   nofun
   refine ⟨aL (by simp),λ t ht=>?_⟩
   refine MX hil ⟨s1.new ht,⟨hs++[t],by rw [Dr]; rfl,by simp [hhl],?_⟩,_,rfl⟩
   rw [lD (by lia),eo]
   refine PsG.snoc (hP.same ((MW _).new ht)) ?_
   rw [ab]
   show _=some (HO.tup [MS (xs[j][c]:Nat),MU (ps.getD j 0)])
   rw [ey]
  rintro ys σ H1 ⟨s1,⟨hs,rfl,hhl,hP⟩,v,rfl⟩ y hy
  rw [C6] at hhl
  rw [Da (by rw [eZ,C6]; lia)] at hP
  have s2:=s1.new (o:=.lst (hs.map MU)) hy
  have P2:=hP.same ((MW H1).new (o:=.lst (hs.map MU)) hy)
  have ty:(upd H1 y (.lst (hs.map MU))) y=some (.lst (hs.map MU)):=ab
  generalize upd H1 y (.lst (hs.map MU))=H2 at s2 P2 ty
  nofun
  refine ⟨_,y,hs,qsO (aE c xs),b,rfl,ty,P2,by rw [eZ]; lia,hb,λ sa pl ml pt us ts H3 hsa hpl' hml hpt W3 s3=>?_⟩
  have s23:=s2.trans s3
  have hsa0:=s2.free hsa
  have hpl0:=s2.free hpl'
  have hml0:=s2.free hml
  nofun
  refine ⟨_,sa,pl,ml,pt,us,.non,ts,_,b,_,qsO (aE c xs),rfl,W3,ot _ b,hqb,hb,λ mv us4 hv4 H4 W4 K4 M4=>?_⟩
  nofun
  refine ⟨λ mm σ H'=>KpH sa pl ml H3 H'/\∃ (kk:Nat) (us:List V) (hv mv:V),mm=(MZ kk (hw0 (qsO (aE c xs)) b)).mu ((qsO (aE c xs)).map Dc)/\(∀ j,j<kk->(MZ j (hw0 (qsO (aE c xs)) b)).step.1≠none)/\LwAt (λ i=>MU (ps.getD i 0)) H' sa pl ml pt us hv ts ((qsO (aE c xs)).map Dc) b (MZ kk (hw0 (qsO (aE c xs)) b)).step.2/\MvV H' mv (MZ kk (hw0 (qsO (aE c xs)) b)).step.1/\σ=[some (MU a),some (MS (c:Nat)),some (MS (b:Nat)),some (MU sa),some mv],⟨_,K4,0,us4,hv4,mv,rfl,λ j hj=>absurd hj (EF _),W4,M4,rfl⟩,?_⟩
  rintro mm σ H7 ⟨K7,kk,us7,hv7,mv7,rfl,hj,W7,M7,rfl⟩
  have O7:=nr hqb kk
  have hm:=ll O7 hqb
  cases hs':(MZ kk (hw0 (qsO (aE c xs)) b)).step.1 with
  | none=>
   rw [hs'] at M7
   have hmv:mv7=.non:=M7
   have eS:=lv (st:=(MZ kk (hw0 (qsO (aE c xs)) b)).step.2) ⟨kk,hs',hj,rfl⟩
   rw [eS] at W7
   have s07:Same H H7:=λ c o e=>K7 c o (s23 _ _ e) (ae e hsa0) (ae e hpl0) (ae e hml0)
   nofun
   rw [decide_eq_true hmv]
   nofun
   refine br (MQ W7.t0) (v:=MU pl) rfl ?_
   have pv:=W7.pv
   rw [f1] at pv
   have hul:us7.length=(hsO (aE c xs) b).length:=by rw [pv.1,C6]
   have hhl2:(hsO (aE c xs) b).length=xs.length:=by rw [f2.length_eq,DR]; exact hol
   refine ⟨pl,rfl,⟨_,MQ W7.tp⟩,bp (a:=pl) (vs:=us7) (λ i zs σ H'=>H'=H7/\zs=(((hsO (aE c xs) b).map λ k=>ps.getD k 0).take i).map MU/\i<=us7.length/\∃ v,σ=[v]) (by rw [hul]; exact ap (by lia)) (λ i zs σ H' h=>by rw [h.2.1,C6,Df,C6]; have:=h.2.2.1; lia) (λ i zs σ H' h=>by rw [h.1]; exact MQ W7.tp) ⟨rfl,rfl,Du _,none,rfl⟩ ?_ ?_⟩
   ·rintro j zs σ H' x hx ⟨rfl,rfl,hj,v,rfl⟩
    have hil:=aR hx
    have hjh:j<(hsO (aE c xs) b).length:=by lia
    have ej:(hsO (aE c xs) b)[j]? = some (hsO (aE c xs) b)[j]:=C4 hjh
    obtain ⟨q',rfl,tq'⟩:=pv.2 j x _ hx (by rw [De,ej]; rfl)
    nofun
    refine MX hil ⟨rfl,?_,by lia,_,rfl⟩
    rw [Dz,De,ej,Dr]; rfl
   rintro zs σ H8 ⟨e8,rfl,_,v,rfl⟩ d hd
   subst e8
   rw [Da (by rw [C6,hul]; exact C8 _)]
   have Rd:=(R.same s07).pick (is:=hsO (aE c xs) b) hhm
   have eR:(hsO (aE c xs) b).map (λ i=>xs.getD i [])=hsR b c xs:=rfl
   rw [eR] at Rd
   generalize ((hsO (aE c xs) b).map λ k=>ps.getD k 0)=ds at Rd
   have sA:=(MW H8).new (o:=.lst (ds.map MU)) hd
   have td:(upd H8 d (.lst (ds.map MU))) d=some (.lst (ds.map MU)):=ab
   have t0A:=sA _ _ W7.t0
   have hdn:=s07.free hd
   generalize upd H8 d (.lst (ds.map MU))=HA at sA td t0A
   nofun
   refine ⟨aL (by simp),λ t ht=>?_⟩
   have sB:=(MW HA).new (o:=.tup [MU d,MS ((oA (aE c xs) b).pt:Nat)]) ht
   exact k t d ds _ hdn ((s07.trans sA).new ht) ab (sB _ _ td) ((Rd.same sA).same sB)
  | some m=>
   rw [hs'] at M7
   obtain ⟨qm,emv,tqm⟩:=MvV.some M7
   subst emv
   nofun
   rw [decide_eq_false (show ¬ MU qm=MV from λ z=>by cases z)]
   nofun
   refine ⟨_,λ _ _ z=>z,?_⟩
   nofun
   refine ⟨_,sa,pl,ml,pt,us7,hv7,ts,_,b,_,qsO (aE c xs),rfl,W7,rR O7 hqb,hqb,hb,λ mv8 us8 hv8 H8 W8 K8 M8=>?_⟩
   nofun
   refine ⟨(MZ (kk+1) (hw0 (qsO (aE c xs)) b)).mu ((qsO (aE c xs)).map Dc),?_,K7.trans K8,kk+1,us8,hv8,mv8,rfl,λ j hj'=>?_,W8,M8,rfl⟩
   ·show (MZ kk (hw0 (qsO (aE c xs)) b)).step.2.mu ((qsO (aE c xs)).map Dc)<_
    rcases hm with h | h
    ·rw [hs'] at h; cases h
    ·lia
   ·by_cases e:j=kk
    ·rw [e,hs']; simp
    ·exact hj j (by lia)
theorem CY {α β γ:Type} {G:Prop} {S B:α->β->γ->Hp->Prop} (hA:(∀ a b c H,S a b c H->B a b c H)->G) (hB:∀ a b c H,S a b c H->B a b c H):G:=hA hB
def StkAt (wl:Addr) (H:Hp) (qs:List Addr) (ws:List Itm):Prop:=qs.length=ws.length/\∀ (i:Nat) q z,qs[i]? = some q->ws[i]? = some z->∃ (l:Addr) (ps:List Addr),H q=some (.tup [.ref l,.int (z.2:Nat)])/\H l=some (.lst (ps.map MU))/\RowsT H ps z.1/\l≠wl
theorem StkAt.same {wl:Addr} {H H1:Hp} {qs:List Addr} {ws:List Itm} (h:StkAt wl H qs ws) (s:Same H H1):StkAt wl H1 qs ws:=⟨h.1,λ i q z a b=>let ⟨l,ps,x,y,r,n⟩:=h.2 i q z a b; ⟨l,ps,s _ _ x,s _ _ y,r.same s,n⟩⟩
theorem StkAt.own {wl:Addr} {H:Hp} {qs:List Addr} {ws:List Itm} {xs ys:List V} (h:StkAt wl H qs ws) (hw:H wl=some (.lst xs)):StkAt wl (upd H wl (.lst ys)) qs ws:=⟨h.1,λ i q z a b=>let ⟨l,ps,x,y,r,n⟩:=h.2 i q z a b; ⟨l,ps,by rw [af (cB x hw (by intro c; cases c))]; exact x,by rw [af n]; exact y,r.own hw,n⟩⟩
theorem StkAt.snoc {H:Hp} {ws:List Itm} {l:Addr} {ps:List Addr} {z:Itm} (h:StkAt wl H qs ws) (h1:H q=some (.tup [.ref l,.int (z.2:Nat)])) (h2:H l=some (.lst (ps.map MU))) (h3:RowsT H ps z.1) (h4:l≠wl):StkAt wl H (qs++[q]) (ws++[z]):=by
 refine ⟨by simp [h.1],λ i q' y a c=>?_⟩
 rcases aN a with ⟨l',a⟩ | ⟨l',a⟩
 ·rcases aN c with ⟨_,c⟩ | ⟨l'',c⟩
  ·exact h.2 i q' y a c
  ·have:=h.1; lia
 ·rcases aN c with ⟨l'',c⟩ | ⟨_,c⟩
  ·have:=h.1; lia
  ·rw [a,c]; exact ⟨l,ps,h1,h2,h3,h4⟩
theorem StkAt.last {H:Hp} {ws:List Itm} (h:StkAt wl H qs ws) (hq:qs≠[]):∃ (rs:List Addr) (q:Addr) (vs:List Itm) (xs:List (List Nat)) (c:Nat) (l:Addr) (ps:List Addr),qs=rs++[q]/\ws=vs++[(xs,c)]/\StkAt wl H rs vs/\H q=some (.tup [.ref l,.int (c:Nat)])/\H l=some (.lst (ps.map MU))/\RowsT H ps xs/\l≠wl:=by
 have hw:ws≠[]:=λ z=>hq (Eo.mp (by rw [h.1,z]; rfl))
 have e1:=(Hk hq).symm
 have e2:=(Hk hw).symm
 generalize qs.getLast hq=q at e1
 generalize ws.getLast hw=z at e2
 generalize qs.dropLast=rs at e1
 generalize ws.dropLast=vs at e2
 subst e1 e2
 obtain ⟨xs,c⟩:=z
 have hl:rs.length=vs.length:=by have:=h.1; simp at this; exact this
 obtain ⟨l,ps,a1,a2,a3,a4⟩:=h.2 rs.length q (xs,c) (by simp) (by rw [hl]; simp)
 exact ⟨rs,q,vs,xs,c,l,ps,rfl,rfl,⟨hl,λ i q' y a b=>h.2 i q' y (by rw [Do (aR a)]; exact a) (by rw [Do (aR b)]; exact b)⟩,a1,a2,a3,a4⟩
theorem RowsT.filt {H:Hp} {ps as:List Addr} {yss:List (List Nat)} {p:Addr} (f:List Nat->Bool) (h:RowsT H as ((yss.take i).filter f)) (e:yss[i]? = some r) (tp:H p=some (.tup (NV r))):RowsT H (as++if f r=true then [p] else []) ((yss.take (i+1)).filter f):=by
 rw [Dz,e,ES]
 show RowsT H _ (_++[r].filter f)
 cases hf:f r with
 | true=>rw [FU,hf,if_pos rfl]; exact h.snoc tp
 | false=>rw [FU,hf,if_neg (by simp),if_neg (by simp),IU,Ef,Ef]; exact h
theorem sQ {ys:List (List Nat)} {fs:List Nat} {g:Nat} (h:fs[i]? = some g):iL c ys (fs.take (i+1))=iL c ys (fs.take i)++[(ys.filter λ r=>decide (r.getD c 0=g),c+1)]:=by
 unfold iL
 rw [Dz,h,Dr]; rfl
def yh:Sp:=λ vs H Q _=>∃ (a:Addr) (ps:List Addr) (rss:List (List Nat)) (b C:Nat),vs=[.ref a,.int (b:Nat),.int (C:Nat)]/\H a=some (.lst (ps.map MU))/\RowsT H ps rss/\(∀ r∈rss,r.length=C/\∀ x∈r,x<b)/\rss.length<=200/\C<=120/\b<=64/\∀ H',Same H H'->Q (.int (hT b C 0 rss:Nat)) H'
theorem yi (T:Tx K mg t):FnOk P w K mg base CX0 4 t.tQ t.tH ["_law_rows_here","_law_base_here","_law_columns"] yh:=by
 refine T.vV.okQ sc_puts (λ vs H Q E h=>?_) (λ cdv A outer s H vs Q E hr h=>?_)
 ·obtain ⟨a,ps,rss,b,C,rfl,_⟩:=h
  rfl
 ·obtain ⟨a,ps,rss,b,C,rfl,ta,R,hG,hn,hC,hb,k⟩:=h
  refine ⟨_,(ac (au (i:=3) sc_puts.nd rfl (Di rfl) (bC (al (bo (al (qv 0) (al ag ad))) ad)))
   (ac (au (i:=4) sc_puts.nd rfl (Di rfl) ag)
   (ac (dL D4 (aB (qV (K:=K) hr.units0) (qv 3) (bC ad) (aG _)) (ac (jn (l8 (K:=K) (qv 3)) (c8 (K:=K) (n:=2) rfl (aq (ak (i:=5) sc_puts.nd rfl (Di rfl)) (aq (ak (i:=6) sc_puts.nd rfl (FE rfl)) bE))))
   (am (di (QW.qt (ki (aB vx (ay (bt (K:=K)) (by rfl) T.cA bx (al (qv 5) ad)) ag (aG _)) (jj (aB vw (qv 6) (qv 2) (aG _))))) (ac (au (i:=7) sc_puts.nd rfl (Di rfl) (pJ (K:=K) rfl rfl T.g5 rfl T.vh (al (bF (N:=["_law_row","_law_column"]) (tgs:=["_law_row"]) (frs:=["_law_column"]) (ix:=[6]) ⟨rfl,by decide +kernel,rfl,by decide +kernel,rfl,rfl,⟨⟨rfl,rfl,_,rfl,rfl⟩,Dv⟩,⟨rfl,Dv⟩,rfl⟩ rfl (bc (K:=K) (qv 5)) (λ _ _ _ _=>(ak (i:=0) (by show DW (["_law_row","_law_column"]:List Str); decide +kernel) rfl (Di rfl))) (λ _ _ _ _=>(aC (dD (K:=K)) (qv 0) (qv 1)))) ad)))
   (ac (di (aB vx (ay (bt (K:=K)) (by rfl) T.cA bx (al (qv 7) ad)) ag (aG _)) (ac (jn (av (nD T) (hr.mono (by decide)) rfl T.pS T.kA.kp T.pQ aK (al (qv 5) (al (qv 6) (al (qv 1) ad)))) (c8 (K:=K) (n:=2) rfl (aq (ak (i:=5) sc_puts.nd rfl (Di rfl)) (aq (ak (i:=8) sc_puts.nd rfl (Di rfl)) bE))))
   (am (au (i:=4) sc_puts.nd rfl (Di rfl) (aU cK (qv 4) (qv 8))))) bP)
   (am (dC D4 rfl (bc (K:=K) (qv 7)) (ak (i:=9) sc_puts.nd rfl (FE rfl)) (am (eV (dA (K:=K) (qv 3) (al (bo (al (iT (N:=["_law_row","_law_column","_law_figure"]) (tgs:=["_law_row"]) (frs:=["_law_column","_law_figure"]) (ix:=[6,9]) ⟨rfl,by decide +kernel,rfl,by decide +kernel,rfl,rfl,⟨⟨rfl,rfl,_,rfl,rfl⟩,⟨rfl,rfl,_,rfl,rfl⟩,Dv⟩,⟨rfl,rfl,Dv⟩,rfl⟩ rfl (bc (K:=K) (qv 5)) (λ _ _ _ _=>(ak (i:=0) (by show DW (["_law_row","_law_column","_law_figure"]:List Str); decide +kernel) rfl (Di rfl))) (λ _ _ _ _=>(qv 0)) (λ _ _ _ _=>(aB uz (aC (dD (K:=K)) (qv 0) (qv 1)) (qv 2) (aG _)))) (al (aU cK (qv 6) ag) ad))) ad)))))))) bP))))
   (am (aD (qv 4)))))),?_⟩
  rw [show L2.start ["_law_rows_here","_law_base_here","_law_columns","_law_waiting","_law_found","_law_some","_law_column","_law_figures_there","_law_laid","_law_figure"] [MU a,MS (b:Nat),MS (C:Nat)]=[some (MU a),some (MS (b:Nat)),some (MS (C:Nat)),none,none,none,none,none,none,none] from rfl]
  nofun
  refine ⟨aL (by simp),λ q0 hq0=>?_⟩
  have s1:=(MW H).new (o:=.tup [MU a,MS 0]) hq0
  have tq0:(upd H q0 (.tup [MU a,MS 0])) q0=some (.tup [MU a,MS 0]):=ab
  generalize upd H q0 (.tup [MU a,MS 0])=H1 at s1 tq0
  nofun
  refine ⟨aL (by simp),λ wl hwl=>?_⟩
  have s2:=s1.new (o:=.lst [MU q0]) hwl
  have s12:=(MW H1).new (o:=.lst [MU q0]) hwl
  have tw:(upd H1 wl (.lst [MU q0])) wl=some (.lst (([q0]:List Addr).map MU)):=ab
  have hwn:H wl=none:=s1.free hwl
  have haw:a≠wl:=ae ta hwn
  generalize upd H1 wl (.lst [MU q0])=H2 at s2 s12 tw
  nofun
  refine ⟨λ m σ H'=>∃ (ws:List Itm) (qs:List Addr) (fd:Nat),m=mO C ws/\Same H H'/\H' wl=some (.lst (qs.map MU))/\StkAt wl H' qs ws/\StkLow ws/\(∀ z∈ws,z.2<=C/\z.1.length<=200/\∀ r∈z.1,r∈rss)/\fd+rW b C ws=hT b C 0 rss/\∃ v5 v6 v7 v8 v9,σ=[some (MU a),some (MS (b:Nat)),some (MS (C:Nat)),some (MU wl),some (MS (fd:Nat)),v5,v6,v7,v8,v9],⟨_,[(rss,0)],[q0],0,rfl,s2,tw,⟨rfl,λ i q z e1 e2=>?_⟩,λ i z e=>?_,λ z hz=>?_,?_,_,_,_,_,_,rfl⟩,?_⟩
  ·match i,e1,e2 with
   | 0,e1,e2=>cases e1; cases e2; exact ⟨a,ps,s12 _ _ tq0,s2 _ _ ta,R.same s2,haw⟩
   | i+1,e1,e2=>simp at e1
  ·match i,e with
   | 0,_=>exact Du _
   | i+1,e=>simp at e
  ·rw [Dk.mp hz]; exact ⟨Du _,hn,λ r hr=>hr⟩
  ·rw [oF,EG,G6]
  rintro m σ H3 ⟨ws,qs,fd,rfl,s3,tw3,S3,L3,G3,e3,v5,v6,v7,v8,v9,rfl⟩
  nofun
  refine ⟨aL (by simp),λ en hen=>?_⟩
  have s34:=(MW H3).new (o:=.lst []) hen
  have ten:(upd H3 en (.lst [])) en=some (.lst []):=ab
  generalize upd H3 en (.lst [])=H4 at s34 ten
  have s4:=s3.trans s34
  have tw4:=s34 _ _ tw3
  have S4:=S3.same s34
  refine ⟨wl,en,_,rfl,rfl,MQ tw4,MQ ten,?_⟩
  by_cases hq0':qs=[]
  ·have hw0:ws=[]:=Eo.mp (by rw [<-S3.1,hq0']; rfl)
   subst hq0' hw0
   rw [decide_eq_true (show (([]:List Addr).map MU)=[] from rfl)]
   have ef:fd=hT b C 0 rss:=by simpa [rW] using e3
   rw [ef]
   nofun
   exact k H4 s4
  obtain ⟨rs,q,vs,xs,c,sl,psx,rfl,rfl,Sr,tq,tsl,Rx,hslw⟩:=S4.last hq0'
  rw [decide_eq_false (show ¬ ((rs++[q]).map MU)=[] by simp)]
  nofun
  refine ⟨_,λ _ _ z=>z,?_⟩
  nofun
  refine ⟨cj tw4,?_⟩
  rw [Dr] at tw4
  refine mf tw4 ?_
  have s5:=s4.own (o:=.lst (rs.map MU)) hwn
  have tw5:(upd H4 wl (.lst (rs.map MU))) wl=some (.lst (rs.map MU)):=ab
  have S5:StkAt wl (upd H4 wl (.lst (rs.map MU))) rs vs:=Sr.own tw4
  have tq5:(upd H4 wl (.lst (rs.map MU))) q=some (.tup [.ref sl,.int (c:Nat)]):=by rw [af (cB tq tw4 (by intro c; cases c))]; exact tq
  have tsl5:(upd H4 wl (.lst (rs.map MU))) sl=some (.lst (psx.map MU)):=by rw [af hslw]; exact tsl
  have Rx5:RowsT (upd H4 wl (.lst (rs.map MU))) psx xs:=Rx.own tw4
  generalize upd H4 wl (.lst (rs.map MU))=H5 at s5 tw5 S5 tq5 tsl5 Rx5
  obtain ⟨hcC,hxn,hxr⟩:=G3 (xs,c) (by simp)
  have hcC:c<=C:=hcC
  have hxn:xs.length<=200:=hxn
  have hxr:∀ r∈xs,r∈rss:=hxr
  have G5:∀ z∈vs,z.2<=C/\z.1.length<=200/\∀ r∈z.1,r∈rss:=λ z hz=>G3 z (D3 _ hz)
  rw [oE,oF] at e3
  have hpx:psx.length=xs.length:=Rx.1
  have hL5:vs.length<=64*C+1:=L3.left.len λ z hz=>(G5 z hz).1
  refine bT tq5 ?_
  dsimp only [EU]
  nofun
  refine bb (MQ tsl5) ?_
  rw [C6,hpx]
  nofun
  refine aY (λ g1=>?_) (λ g1=>?_)
  ·nofun
   refine aY (λ g2=>?_) (λ g2=>?_)
   ·have hcl:c<C:=by lia
    have hxl:1<xs.length:=by lia
    have hrc:∀ r∈xs,c<r.length:=λ r hr=>by rw [(hG r (hxr r hr)).1]; exact hcl
    have hcol:∀ r∈xs,r.getD c 0<b:=λ r hr=>by
     rw [C5,C4 (hrc r hr)]
     exact (hG r (hxr r hr)).2 _ (Dl _)
    have h64:∀ o∈aE c xs,o<64:=λ o ho=>Ds (cn hcol o ho) hb
    nofun
    refine ⟨sl,rfl,⟨_,MQ tsl5⟩,bp (a:=sl) (vs:=psx.map MU) (λ i ys σ H'=>H'=H5/\ys=NV ((aE c xs).take i)/\i<=psx.length/\∃ v,σ=[v,some (MS (c:Nat))]) (by rw [C6]; exact ap (by lia)) (λ i ys σ H' h=>by rw [h.2.1,ax,Df,bH]; have:=h.2.2.1; lia) (λ i ys σ H' h=>by rw [h.1]; exact MQ tsl5) ⟨rfl,rfl,Du _,none,rfl⟩ ?_ ?_⟩
    ·rintro j ys σ H' x hx ⟨rfl,rfl,hj,v,rfl⟩
     have hil:=aR hx
     obtain ⟨y,rfl,hy,_,hjy⟩:=aQ hx
     have hjx:j<xs.length:=by lia
     have ty:H' y=some (.tup (NV xs[j])):=Rx5.2 j y _ hy (C4 hjx)
     have hcj:=hrc _ (Dl hjx)
     nofun
     refine gr (MR ty) (jX rfl (o:=xs[j][c]) (by simp [hcj])) ?_
     refine MX hil ⟨rfl,?_,by lia,_,rfl⟩
     rw [cM,Dz]
     have ef:(aE c xs)[j]? = some xs[j][c]:=by
      unfold aE
      rw [De,C4 hjx]
      show some (xs[j].getD c 0)=_
      rw [C5,C4 hcj]; rfl
     rw [ef]; rfl
    rintro ys σ H5' ⟨e5,rfl,_,v,rfl⟩ fl hfl
    subst e5
    rw [Da (by rw [bH,C6]; lia)]
    have s56:=(MW H5').new (o:=.lst (NV (aE c xs))) hfl
    have tfl:(upd H5' fl (.lst (NV (aE c xs)))) fl=some (.lst ((cQ (aE c xs)).map MS)):=by rw [ab,qR]; rfl
    generalize upd H5' fl (.lst (NV (aE c xs)))=H6 at s56 tfl
    nofun
    refine ⟨fl,cQ (aE c xs),rfl,MQ tfl,by unfold cQ; rw [C6,bH]; lia,λ d ms hd h1 h2=>?_⟩
    obtain ⟨fs,rfl,F⟩:=Figs.of h1 h2
    have eN:(cQ fs).map MS=NV fs:=(qR fs).symm
    rw [eN]
    have s67:=(MW H6).new (o:=.lst (NV fs)) hd
    have td:(upd H6 d (.lst (NV fs))) d=some (.lst (NV fs)):=ab
    have hdw:d≠wl:=λ z=>by rw [z,s56 _ _ tw5] at hd; cases hd
    generalize upd H6 d (.lst (NV fs))=H7 at s67 td
    have s57:=s56.trans s67
    have hfl64:=F.len h64
    nofun
    refine bb (MQ td) ?_
    rw [ax]
    nofun
    apply CY (S:=λ (sl':Addr) (fI:Int) (ov:Option V) HD=>Same H7 HD/\(∃ ds:List Addr,HD sl'=some (.lst (ds.map MU))/\RowsT HD ds (hH b c xs))/\sl'≠wl/\fI=((fd+hP b c xs:Nat):Int))
    case hA=>
     intro key
     refine aY (λ g3=>?_) (λ g3=>?_)
     ·have hp:=(F.more h64).mp (by lia)
      nofun
      refine ⟨sl,psx,xs,c,b,rfl,s57 _ _ tsl5,Rx5.same s57,hxn,hrc,hcol,hb,λ tt lw ds H8 hlw s8 ttt tlw Rd=>?_⟩
      refine bT ttt ?_
      dsimp only [EU]
      nofun
      have hlww:lw≠wl:=λ z=>by rw [z,s57 _ _ tw5] at hlw; cases hlw
      have e8:((fd:Nat):Int)+((hpO (aE c xs) b:Nat):Int)=((fd+hP b c xs:Nat):Int):=by unfold hP; rw [if_pos hp]; lia
      have eH:hsR b c xs=hH b c xs:=by unfold hH; rw [if_pos hp]
      rw [eH] at Rd
      generalize ((fd:Nat):Int)+((hpO (aE c xs) b:Nat):Int)=fI at e8
      generalize some (MS ((hpO (aE c xs) b:Nat):Int))=ov
      exact key lw fI ov H8 ⟨s8,⟨ds,tlw,Rd⟩,hlww,e8⟩
     ·have hp:¬ bD (cnt (aE c xs) 64)=true:=λ z=>by have:=(F.more h64).mpr z; lia
      nofun
      refine key sl _ _ H7 ⟨MW _,⟨psx,s57 _ _ tsl5,?_⟩,hslw,?_⟩
      ·unfold hH; rw [if_neg hp]; exact Rx5.same s57
      ·unfold hP; rw [if_neg hp,FS]
    case hB=>
     rintro sl' fI ov HD ⟨sD,⟨ds,tD,RR⟩,hnw,rfl⟩
     have hHp:=rZ hcol
     have hHm:∀ r∈hH b c xs,r∈xs:=λ r hr=>hHp.mem_iff.mp hr
     have hHl:(hH b c xs).length=xs.length:=hHp.length_eq
     have esum:=xQ (C:=C) F hcol hb hcl hxl
     have s5D:=s57.trans sD
     generalize hH b c xs=yss at RR hHm hHl esum
     have hdl:ds.length=yss.length:=RR.1
     nofun
     refine ⟨d,rfl,⟨_,MQ (sD _ _ td)⟩,gh (a:=d) (xs:=NV fs) (λ i σ H'=>Same H H'/\H' d=some (.lst (NV fs))/\H' sl'=some (.lst (ds.map MU))/\RowsT H' ds yss/\(∃ us:List Addr,H' wl=some (.lst ((rs++us).map MU))/\us.length=i/\StkAt wl H' (rs++us) (vs++iL c yss (fs.take i)))/\∃ v9,σ=[some (MU a),some (MS (b:Nat)),some (MS (C:Nat)),some (MU wl),some (MS ((fd+hP b c xs:Nat):Int)),some (MU sl'),some (MS (c:Nat)),some (MU d),ov,v9]) ⟨s5.trans s5D,sD _ _ td,tD,RR,⟨[],by rw [Ef]; exact s5D _ _ tw5,rfl,by rw [Ef]; exact (show StkAt wl HD rs (vs++[]) by rw [Ef]; exact S5.same s5D)⟩,_,rfl⟩ (λ i σ H' _ h=>MQ h.2.1) ?_ ?_⟩
     ·rintro i x σ H9 hx ⟨s9,td9,ts9,R9,⟨us,tw9,hul,S9⟩,v9',rfl⟩
      obtain ⟨g,rfl,hg,hgm,hi⟩:=aQ hx
      nofun
      refine ⟨cj tw9,?_⟩
      nofun
      refine ⟨sl',rfl,⟨_,MQ ts9⟩,jo (a:=sl') (vs:=ds.map MU) (λ j ys σ H'=>H'=H9/\(∃ as:List Addr,ys=as.map MU/\as.length<=j/\RowsT H9 as ((yss.take j).filter λ r=>decide (r.getD c 0=g)))/\∃ v,σ=[v,some (MS (c:Nat)),some (MS (g:Nat))]) (by rw [C6]; exact ap (by lia)) (λ j ys σ H' h=>by obtain ⟨_,⟨as,rfl,e,_⟩,_⟩:=h; rw [C6]; exact e) (λ j ys σ H' h=>by rw [h.1]; exact MQ ts9) ⟨rfl,⟨[],rfl,C8 _,rfl,λ i p r h=>by simp at h⟩,none,rfl⟩ ?_ ?_⟩
      ·rintro j ys σ H' x hx ⟨rfl,⟨as,rfl,hal,Ra⟩,v,rfl⟩
       have hil:=aR hx
       obtain ⟨y,rfl,hy,_,hjy⟩:=aQ hx
       have hjx:j<yss.length:=by lia
       have ty:H' y=some (.tup (NV yss[j])):=R9.2 j y _ hy (C4 hjx)
       have hcj:=hrc _ (hHm _ (Dl hjx))
       have Ra2:=RowsT.filt (ps:=as) (λ r=>decide (r.getD c 0=g)) Ra (C4 hjx) ty
       have eo:yss[j].getD c 0=yss[j][c]:=by rw [C5,C4 hcj]; rfl
       rw [eo] at Ra2
       nofun
       refine gr (MR ty) (jX rfl (o:=yss[j][c]) (by simp [hcj])) ?_
       nofun
       by_cases gg:yss[j][c]=g
       ·have g2:MS ((yss[j][c]:Nat):Int)=MS ((g:Nat):Int):=by rw [gg]
        rw [decide_eq_true gg,if_pos rfl] at Ra2
        rw [decide_eq_true g2]
        nofun
        exact MX hil ⟨rfl,⟨as++[y],by rw [Dr]; rfl,by simp; lia,Ra2⟩,_,rfl⟩
       ·have g2:¬ MS ((yss[j][c]:Nat):Int)=MS ((g:Nat):Int):=λ z=>by
         have:=MS.inj z
         exact gg (by lia)
        rw [decide_eq_false gg,if_neg (by simp),Ef] at Ra2
        rw [decide_eq_false g2]
        nofun
        exact MX hil ⟨rfl,⟨as,rfl,by lia,Ra2⟩,_,rfl⟩
      rintro ys σ H9' ⟨e9,⟨as,rfl,hal,Ra⟩,v,rfl⟩ nl hnl
      subst e9
      rw [Da (by rw [C6]; lia)] at Ra
      have sA:=(MW H9').new (o:=.lst (as.map MU)) hnl
      have tnl:(upd H9' nl (.lst (as.map MU))) nl=some (.lst (as.map MU)):=ab
      have hnlw:nl≠wl:=λ z=>by rw [z,tw9] at hnl; cases hnl
      generalize upd H9' nl (.lst (as.map MU))=HA at sA tnl
      have ec1:(c:Int)+1=((c+1:Nat):Int):=by lia
      nofun
      rw [ec1]
      refine ⟨aL (by simp),λ t' ht'=>?_⟩
      have sB:=(MW HA).new (o:=.tup [MU nl,MS ((c+1:Nat):Int)]) ht'
      have tt:(upd HA t' (.tup [MU nl,MS ((c+1:Nat):Int)])) t'=some (.tup [MU nl,MS ((c+1:Nat):Int)]):=ab
      generalize upd HA t' (.tup [MU nl,MS ((c+1:Nat):Int)])=HB at sB tt
      have sAB:=sA.trans sB
      have twB:=sAB _ _ tw9
      have hrl:rs.length=vs.length:=S5.1
      nofun
      refine bS twB (EE (show _<=7800 by rw [C6,Dg]; lia) (by decide)) ?_
      rw [show (rs++us).map MU++[MU t']=(rs++(us++[t'])).map MU by simp]
      refine ⟨(s9.trans sAB).own hwn,?_,?_,?_,⟨us++[t'],ab,by simp [hul],?_⟩,_,rfl⟩
      ·rw [af hdw]; exact sAB _ _ td9
      ·rw [af hnw]; exact sAB _ _ ts9
      ·exact (R9.same sAB).own twB
      ·rw [sQ hg,<-DH,<-DH]
       exact ((S9.same sAB).snoc (z:=(yss.filter λ r=>decide (r.getD c 0=g),c+1)) tt (sB _ _ tnl) (Ra.same sAB) hnlw).own twB
     ·rintro σ H9 ⟨s9,td9,ts9,R9,⟨us,tw9,hul,S9⟩,v9',rfl⟩
      rw [ax] at hul S9
      rw [Da (C8 _)] at S9
      nofun
      have hn1:∀ z∈iL c yss fs,z.2=c+1:=λ z hz=>by
       unfold iL at hz
       obtain ⟨g,_,rfl⟩:=DM.mp hz
       rfl
      have hn2:(iL c yss fs).length<=64:=by unfold iL; rw [C6]; exact hfl64
      refine ⟨_,rY hcl hn1 hn2,_,_,_,rfl,s9,tw9,S9,L3.step hn1 hn2,λ z hz=>?_,?_,_,_,_,_,_,rfl⟩
      ·rcases DG.mp hz with m | m
       ·exact G5 z m
       ·have e:=hn1 z m
        unfold iL at m
        obtain ⟨g,_,rfl⟩:=DM.mp m
        refine ⟨by show c+1<=C; lia,?_,λ r hr=>hxr r (hHm r (Ee.mp hr).1)⟩
        show (yss.filter _).length<=200
        have:=G0 (λ r:List Nat=>decide (r.getD c 0=g)) yss
        lia
      ·rw [oE]; lia
   ·have ec:c=C:=by lia
    nofun
    refine ⟨_,rX C vs (xs,c),vs,rs,fd,rfl,s5,tw5,S5,L3.left,G5,?_,_,_,_,_,_,rfl⟩
    rw [ec,FT,show hT b 0 C xs=0 from rfl] at e3
    lia
  ·nofun
   refine ⟨_,rX C vs (xs,c),vs,rs,fd,rfl,s5,tw5,S5,L3.left,G5,?_,_,_,_,_,_,rfl⟩
   rw [gL (by lia)] at e3
   lia
theorem yj {H:Hp} (n:Nat) {x:Nat} (h:x<64):DatAt n H (.int (x:Nat)) (.int (x:Nat)):=by
 have:((x:Nat):Int).natAbs<10 ^ 12:=by rw [Gf]; lia
 cases n with
 | zero=>exact ⟨_,rfl,rfl,this⟩
 | succ n=>exact .inl ⟨_,rfl,rfl,this⟩
noncomputable def pO (r:List Nat):List PyData:=r.map λ x:Nat=>Ju x
theorem nE {H:Hp} (n:Nat) (h:∀ x∈r,x<64):∀ (i:Nat) u e,(NV r)[i]? = some u->(pO r)[i]? = some e->DatAt n H u e:=by
 intro i u e e1 e2
 obtain ⟨o,rfl,ho,hm,_⟩:=aQ e1
 unfold pO at e2
 rw [De,ho] at e2
 cases e2
 exact yj n (h o hm)
theorem sR:∀ {r:List Nat},(∀ x∈r,x<64)->EC (pO r)<=8*r.length
 | [],_=>C8 _
 | x::r,h=>by
  have h1:=sR λ y hy=>h y (DE _ hy)
  have hx:=h x (DF ..)
  show EC (Ju x::pO r)<=_
  rw [EC,DD]
  have h2:(Ju (x:Nat)).weight<=6:=by
   rw [Fp]
   split
   ·lia
   ·rename_i g
    rw [Gf]
    have h0:x≠0:=λ z=>g (by rw [z]; rfl)
    have:=(Hl h0).mpr (show x<2 ^ 6 from hx)
    lia
  lia
theorem oK {H:Hp}:∀ {ps:List Addr} {rss:List (List Nat)},RowsS H ps rss->(∀ r∈rss,r.length<=120/\∀ x∈r,x<64)->∃ ds:List PyData,(ps.map MU).length=ds.length/\(∀ (i:Nat) u e,(ps.map MU)[i]? = some u->ds[i]? = some e->DatAt 2 H u e)/\EC ds<=1000*ps.length
 | [],rss,h,_=>⟨[],rfl,λ i u e h=>by simp at h,C8 _⟩
 | p::ps,[],h,_=>by have:=h.1; simp at this
 | p::ps,r::rss,h,hr=>by
  obtain ⟨ds,h1,h2,h3⟩:=oK (ps:=ps) (rss:=rss) ⟨by have:=h.1; simpa using this,λ i q y a b=>h.2 (i+1) q y a b⟩ λ y hy=>hr y (DE _ hy)
  obtain ⟨hl,hx⟩:=hr r (DF ..)
  have hw:=sR hx
  have hlen:(NV r).length=(pO r).length:=by rw [ax]; unfold pO; rw [C6]
  have hrow:∃ d,DatAt 2 H (MU p) d/\d.weight<=960:=by
   rcases h.2 0 p r rfl rfl with e | e
   ·exact ⟨.list (pO r),.inr (.inl ⟨p,_,_,rfl,rfl,e,hlen,nE 1 hx⟩),by rw [Fp]; lia⟩
   ·exact ⟨.tuple (pO r),.inr (.inr ⟨p,_,_,rfl,rfl,e,hlen,nE 1 hx⟩),by rw [Fp]; lia⟩
  obtain ⟨d,hd,hdw⟩:=hrow
  refine ⟨d::ds,by simpa using h1,λ i u e e1 e2=>?_,?_⟩
  ·cases i with
   | zero=>cases e1; cases e2; exact hd
   | succ i=>exact h2 i u e (by simpa using e1) (by simpa using e2)
  ·rw [EC,DD]; lia
theorem yk {H:Hp} {ps:List Addr} {rss:List (List Nat)} {w:Nat} (ha:H a=some (.lst (ps.map MU))\/H a=some (.tup (ps.map MU))) (h:RowsS H ps rss) (hG:Good rss w b) (hn:rss.length<=200) (hw:w<=120) (hb:b<=64):∃ D,DatAt 3 H (.ref a) D/\D.weight<=2 ^ 20:=by
 obtain ⟨ds,h1,h2,h3⟩:=oK h λ r hr=>by
  obtain ⟨g1,g2⟩:=hG r hr
  exact ⟨by lia,λ x hx=>by have:=g2 x hx; lia⟩
 have hl:=h.1
 have h5:(2:Nat) ^ 20=1048576:=by decide
 have h4:EC ds<=2 ^ 20:=by rw [h5]; lia
 rcases ha with e | e
 ·exact ⟨.list ds,.inr (.inl ⟨a,_,_,rfl,rfl,e,h1,h2⟩),by rw [Fp]; exact h4⟩
 ·exact ⟨.tuple ds,.inr (.inr ⟨a,_,_,rfl,rfl,e,h1,h2⟩),by rw [Fp]; exact h4⟩
def ve:Sp:=λ vs H Q _=>∃ (p:Addr) (n b:Nat),vs=[.ref p,.int n,.int b]/\Tp2 H p/\n<=200/\2<=b/\b<=64/\∀ (l:Addr) (ps:List Addr) (rss:List (List Nat)) (w:Nat) H',H l=none->H' l=some (.lst (ps.map MU))->RowsT H' ps rss->rss.length=n->Good rss w b->w<=120->l≠p->St2 p H H'->Q (.ref l) H'
theorem yl (T:Tx K mg t):FnOk P w K mg base CX0 2 t.tR t.tK ["_law_tape_here","_law_many_here","_law_base_here"] ve:=by
 refine T.vW.okQ sc_rows (λ vs H Q E h=>?_) (λ cdv A outer s H vs Q E hr h=>?_)
 ·obtain ⟨p,n,b,rfl,_⟩:=h
  rfl
 ·obtain ⟨p,n,b,rfl,hT,hn,hb,hb2,k⟩:=h
  refine ⟨_,(ac (au (i:=3) sc_rows.nd rfl (Di rfl) (av (bK T) (hr.mono (by decide)) rfl T.c5 T.cF.kp T.cV aK (al (qv 0) (al ag ad))))
   (ac (di (aB uz (av (bK T) (hr.mono (by decide)) rfl T.c5 T.cF.kp T.cV aK (al (qv 0) (al ag ad))) ag (aG _)) (am (au (i:=3) sc_rows.nd rfl (Di rfl) (aC (bg (K:=K)) (bC (al ag (al ag (al ag (al ag (al ag ad)))))) (av (bK T) (hr.mono (by decide)) rfl T.c5 T.cF.kp T.cV aK (al (qv 0) (al ag ad)))))) bP)
   (ac (au (i:=4) sc_rows.nd rfl (FE rfl) (aC (bg (K:=K)) (bC (al (qv 2) (al ag ad))) (av (bK T) (hr.mono (by decide)) rfl T.c5 T.cF.kp T.cV aK (al (qv 0) (al ag ad)))))
   (ac (au (i:=5) sc_rows.nd rfl (Di rfl) (bC ad))
   (ac (dC D4 rfl (dB rfl T.c6 (al (qv 1) ad)) (ak (i:=6) sc_rows.nd rfl (Di rfl)) (ac (au (i:=7) sc_rows.nd rfl (Di rfl) (aV (gu (K:=K)) (by rfl) T.dy dU (al (bF (N:=["_law_column","_law_tape_here","_law_top"]) (tgs:=["_law_column"]) (frs:=["_law_tape_here","_law_top"]) (ix:=[0,4]) ⟨rfl,by decide +kernel,rfl,by decide +kernel,rfl,rfl,⟨⟨rfl,rfl,_,rfl,rfl⟩,⟨rfl,rfl,_,rfl,rfl⟩,Dv⟩,⟨rfl,rfl,Dv⟩,rfl⟩ rfl (dB rfl T.c6 (al (qv 3) ad)) (λ _ _ _ _=>(ak (i:=0) (by show DW (["_law_column","_law_tape_here","_law_top"]:List Str); decide +kernel) rfl (Di rfl))) (λ _ _ _ _=>(av (bK T) (hr.mono (by decide)) rfl T.c5 T.cF.kp T.cV aK (al (qv 1) (al (qv 2) ad))))) ad)))
   (ac (au (i:=8) sc_rows.nd rfl (Di rfl) (av (bK T) (hr.mono (by decide)) rfl T.c5 T.cF.kp T.cV aK (al (qv 0) (al ag ad))))
   (ac (di (QW.qt (ki (aB (qV (K:=K) hr.units0) (qv 5) (bC ad) (aG _)) (jj (aB vx (qv 8) ag (aG _))))) (ac (au (i:=9) sc_rows.nd rfl (Di rfl) (aC (bg (K:=K)) (qv 5) (av (bK T) (hr.mono (by decide)) rfl T.c5 T.cF.kp T.cV aK (al (qv 0) (al (ay (bt (K:=K)) (by rfl) T.cA bx (al (qv 5) ad)) ad)))))
   (ac (au (i:=10) sc_rows.nd rfl (Di rfl) (av (bK T) (hr.mono (by decide)) rfl T.c5 T.cF.kp T.cV aK (al (qv 0) (al (aU cK (qv 3) ag) ad))))
   (am (au (i:=7) sc_rows.nd rfl (Di rfl) (aC (bg (K:=K)) (bC (al (qv 9) (al (aU xu (dJ vD (qv 9) qJ (cD (qv 10))) (dJ vD (qv 7) (cD (qv 10)) qJ)) ad))) (aU xl (qv 8) ag)))))) bP)
   (am (eV (dA (K:=K) (qv 5) (al (qv 7) ad))))))))
   (am (aD (qv 5)))))))),?_⟩
  rw [show L2.start ["_law_tape_here","_law_many_here","_law_base_here","_law_columns","_law_top","_law_found","_law_k","_law_row","_law_way","_law_other","_law_at"] [MU p,MS n,MS b]=[some (MU p),some (MS n),some (MS b),none,none,none,none,none,none,none,none] from rfl]
  nofun
  apply BG (α:=Nat) (S:=λ w H1=>w<=120/\St2 p H H1)
  case hA=>
   intro key
   refine ⟨p,7,rfl,hT,by decide,by decide,λ w0 H1 a1 S1=>?_⟩
   nofun
   refine ⟨p,8,rfl,S1.tape,by decide,by decide,λ r1 H2 b1 S2=>?_⟩
   have S12:=S1.trans S2
   nofun
   refine aY (λ h0=>?_) (λ h0=>?_)
   rotate_left
   ·nofun
    exact key w0 H2 ⟨by lia,S12⟩
   nofun
   refine ⟨aL (by simp),λ q hq=>?_⟩
   nofun
   refine ⟨p,5,rfl,(S12.new hq).tape,by decide,by decide,λ r2 H3 c1 S3=>?_⟩
   obtain ⟨u,e,hu⟩:=g7 (xs:=[MS 20,MS 20,MS 20,MS 20,MS 120]) (r:=(r2:Int)) (by lia) (by simpa using c1)
   refine br (MQ (S3.keep q _ ab (S12.tape.ne hq))) e ?_
   have hu':∃ x:Nat,u=MS x/\x<=120:=by
    simp only [Dx,Ed,or_false] at hu
    rcases hu with rfl | rfl | rfl | rfl | rfl
    ·exact ⟨20,rfl,by lia⟩
    ·exact ⟨20,rfl,by lia⟩
    ·exact ⟨20,rfl,by lia⟩
    ·exact ⟨20,rfl,by lia⟩
    ·exact ⟨120,rfl,by lia⟩
   obtain ⟨x,rfl,hx⟩:=hu'
   nofun
   exact key x H3 ⟨hx,(S12.new hq).trans S3⟩
  case hB=>
  rintro w H1 ⟨hw,S1⟩
  nofun
  refine ⟨aL (by simp),λ q hq=>?_⟩
  nofun
  refine ⟨p,2,rfl,(S1.new hq).tape,by decide,by decide,λ r2 H2 c1 S2=>?_⟩
  obtain ⟨u,e,hu⟩:=g7 (xs:=[MS (b:Nat),MS 2]) (r:=(r2:Int)) (by lia) (by simpa using c1)
  refine br (MQ (S2.keep q _ ab (S1.tape.ne hq))) e ?_
  have hu':∃ x:Nat,u=MS x/\0<x/\x<=b:=by
   simp only [Dx,Ed,or_false] at hu
   rcases hu with rfl | rfl
   ·exact ⟨b,rfl,by lia,C8 _⟩
   ·exact ⟨2,rfl,by lia,hb⟩
  obtain ⟨tp,rfl,htp,htp2⟩:=hu'
  clear hu e
  have S02:=(S1.new (o:=.lst [MS (b:Nat),MS 2]) hq).trans S2
  nofun
  refine ⟨aL (by simp),λ l hl=>?_⟩
  have n0:=S02.tape.ne hl
  have hl0:H l=none:=S02.free hl
  have S03:=S02.new (o:=.lst []) hl
  have tl3:(upd H2 l (.lst [])) l=some (.lst (([]:List Addr).map MU)):=ab
  generalize upd H2 l (.lst [])=H3 at S03 tl3
  clear S02 S1 S2
  nofun
  refine ⟨n,rfl,by lia,by lia,eQ (n:=n) (λ i σ H'=>St2 p H H'/\(∃ (ps:List Addr) (rss:List (List Nat)),H' l=some (.lst (ps.map MU))/\RowsT H' ps rss/\Good rss w b/\ps.length=i)/\∃ v6 v7 v8 v9 v10,σ=[some (MU p),some (MS n),some (MS b),some (MS w),some (MS tp),some (MU l),v6,v7,v8,v9,v10]) ⟨S03,⟨[],[],tl3,⟨rfl,λ i p r h=>by simp at h⟩,(λ r h=>nomatch h),rfl⟩,_,_,_,_,_,rfl⟩ ?_ ?_⟩
  ·rintro i σ H4 hi ⟨S4,⟨ps,rss,tl4,hR,hG,hpl⟩,v6,v7,v8,v9,v10,rfl⟩
   have hrl:ps.length=rss.length:=hR.1
   nofun
   refine ⟨w,rfl,by lia,by lia,uA (n:=w) (λ i ys σ H5=>St2 p H4 H5/\(∃ cs:List Nat,ys=NV cs/\cs.length=i/\∀ x∈cs,x<b)/\∃ v,σ=[v,some (MU p),some (MS tp)]) (ap (by lia)) (λ i ys σ H5 h=>by obtain ⟨_,⟨cs,rfl,e,_⟩,_⟩:=h; rw [ax,e]) ⟨St2.refl S4.tape,⟨[],rfl,rfl,λ x h=>nomatch h⟩,none,rfl⟩ ?_ ?_⟩
   ·rintro i' ys σ H5 hi' ⟨S5,⟨cs,rfl,hcl,hcb⟩,v,rfl⟩
    nofun
    refine ⟨p,tp,rfl,S5.tape,by lia,by lia,λ r H6 c1 S6=>?_⟩
    refine MX hi' ⟨S5.trans S6,⟨cs++[r],cM _ _,by simp [hcl],λ y hy=>?_⟩,_,rfl⟩
    rcases DG.mp hy with h | h
    ·exact hcb y h
    ·rw [Dk.mp h]; lia
   rintro ys σ H5 ⟨S5,⟨cs,rfl,hcl,hcb⟩,v,rfl⟩ g1 hg1
   have S6:=S5.new (o:=.lst (NV cs)) hg1
   have tg1:(upd H5 g1 (.lst (NV cs))) g1=some (.lst (NV cs)):=ab
   generalize upd H5 g1 (.lst (NV cs))=H6 at S6 tg1
   nofun
   refine ji (MQ tg1) λ g hg=>?_
   have S7:=S6.new (o:=.tup (NV cs)) hg
   have tg7:(upd H6 g (.tup (NV cs))) g=some (.tup (NV cs)):=ab
   generalize upd H6 g (.tup (NV cs))=H7 at S7 tg7
   nofun
   refine ⟨p,4,rfl,S7.tape,by decide,by decide,λ way H8 d1 S8=>?_⟩
   have gp:g≠p:=u5 S7.tape tg7
   have S48:=S7.trans S8
   have S08:=S4.trans S48
   have tg8:=S8.keep _ _ tg7 gp
   have tl8:=S48.keep _ _ tl4 n0
   have R8:=hR.st2 S4.tape S48
   clear S5 S6 S7 S8 S48
   nofun
   refine ⟨aL (by simp),λ em hem=>?_⟩
   have S9:=S08.new (o:=.lst []) hem
   have s9:=(MW H8).new (o:=.lst []) hem
   have tem:(upd H8 em (.lst [])) em=some (.lst []):=ab
   generalize upd H8 em (.lst [])=H9 at S9 s9 tem
   have tl9:=s9 _ _ tl8
   have tg9:=s9 _ _ tg8
   have R9:=R8.same s9
   nofun
   refine ⟨l,em,ps.map MU,rfl,rfl,MQ tl9,MQ tem,?_⟩
   nofun
   by_cases hne:ps.map MU=[]
   ·rw [decide_eq_true hne]
    nofun
    refine ⟨cj tl9,?_⟩
    nofun
    refine bS tl9 (by rw [C6,hpl]; exact ap (by lia)) ?_
    exact ⟨(S9).own hl0 n0,⟨ps++[g],rss++[cs],by rw [ab,Dr]; rfl,(RowsT.snoc R9 tg9).own tl9,hG.snoc hcl hcb,by simp [hpl]⟩,_,_,_,_,_,rfl⟩
   rw [decide_eq_false hne]
   have hp0:0<ps.length:=by
    rcases Fg ps.length with z | z
    ·exact absurd (by rw [Eo.mp z]; rfl) hne
    ·exact z
   nofun
   refine aY (λ hway=>?_) (λ hway=>?_)
   rotate_left
   ·skip
    nofun
    refine ⟨cj tl9,?_⟩
    nofun
    refine bS tl9 (by rw [C6,hpl]; exact ap (by lia)) ?_
    exact ⟨(S9).own hl0 n0,⟨ps++[g],rss++[cs],by rw [ab,Dr]; rfl,(RowsT.snoc R9 tg9).own tl9,hG.snoc hcl hcb,by simp [hpl]⟩,_,_,_,_,_,rfl⟩
   nofun
   refine bb (MQ tl9) ?_
   rw [C6]
   nofun
   refine ⟨p,_,rfl,S9.tape,by lia,by lia,λ j HA e1 SA=>?_⟩
   have hj:j<ps.length:=by lia
   have S0A:=S9.trans SA
   have tlA:=SA.keep _ _ tl9 n0
   have RA:=R9.st2 S9.tape SA
   have tgA:=SA.keep _ _ tg9 gp
   obtain ⟨q,hq⟩:∃ q,ps[j]? = some q:=⟨ps[j],by simp [hj]⟩
   have hjr:j<rss.length:=by lia
   have er:rss[j]? = some rss[j]:=by simp [hjr]
   have hrm:=hG _ (Dl hjr)
   generalize rss[j]=row at er hrm
   have tqA:=RA.2 j q row hq er
   have qp:q≠p:=u5 S0A.tape tqA
   refine br (MQ tlA) (v:=MU q) (aO (by rw [De,hq]; rfl)) ?_
   nofun
   refine ⟨p,_,rfl,S0A.tape,by lia,by lia,λ at0 HB f1 SB=>?_⟩
   have hat:at0<=w:=by lia
   have S0B:=S0A.trans SB
   have tlB:=SB.keep _ _ tlA n0
   have RB:=RA.st2 S0A.tape SB
   have tgB:=SB.keep _ _ tgA gp
   have tqB:=SB.keep _ _ tqA qp
   nofun
   refine ⟨_,rfl,?_⟩
   refine sw tqB λ x1 HC sC tx1=>?_
   rw [qW _ _ (by lia)] at tx1
   nofun
   refine ⟨_,rfl,?_⟩
   nofun
   refine sw (sC _ _ tgB) λ x2 HD sD tx2=>?_
   rw [qX _ _ (by lia)] at tx2
   nofun
   refine ⟨x1,x2,_,_,rfl,rfl,sD _ _ tx1,tx2,EN (EE (by rw [ax,ax,Df,DU]; lia) (by decide:240<sizeLine)),λ x3 HE sE tx3=>?_⟩
   rw [zI] at tx3
   nofun
   refine ⟨aL (by simp),λ z hz=>?_⟩
   have sF:=(MW HE).new (o:=.lst [MU q,MU x3]) hz
   have tz:(upd HE z (.lst [MU q,MU x3])) z=some (.lst [MU q,MU x3]):=ab
   generalize upd HE z (.lst [MU q,MU x3])=HF at sF tz
   have sBF:=((sC.trans sD).trans sE).trans sF
   have S0F:St2 p H HF:=⟨λ c u e1 e2=>sBF _ _ (S0B.keep c u e1 e2),S0B.tape.same sBF⟩
   have tlF:=sBF _ _ tlB
   have RF:=RB.same sBF
   nofun
   obtain ⟨u,e,hu⟩:=g7 (xs:=[MU q,MU x3]) (r:=(way:Int) - 2) (by lia) (by simp only [DD,E6]; lia)
   refine br (MQ tz) e ?_
   have hu':∃ (y:Addr) (r:List Nat),u=MU y/\HF y=some (.tup (NV r))/\r.length=w/\∀ x∈r,x<b:=by
    simp only [Dx,Ed,or_false] at hu
    rcases hu with rfl | rfl
    ·exact ⟨q,row,rfl,sBF _ _ tqB,hrm.1,hrm.2⟩
    ·refine ⟨x3,_,rfl,sF _ _ tx3,by rw [Dg,Df,DU]; lia,λ x hx=>?_⟩
     rcases DG.mp hx with h | h
     ·exact hrm.2 x (DL h)
     ·exact hcb x (DO h)
   obtain ⟨y,r,rfl,ty,hyl,hyb⟩:=hu'
   nofun
   refine ⟨cj tlF,?_⟩
   nofun
   refine bS tlF (by rw [C6,hpl]; exact ap (by lia)) ?_
   exact ⟨(S0F).own hl0 n0,⟨ps++[y],rss++[r],by rw [ab,Dr]; rfl,(RowsT.snoc RF ty).own tlF,hG.snoc hyl hyb,by simp [hpl]⟩,_,_,_,_,_,rfl⟩
  ·rintro σ H4 ⟨S4,⟨ps,rss,tl4,hR,hG,hpl⟩,v6,v7,v8,v9,v10,rfl⟩
   nofun
   exact k l ps rss w H4 hl0 tl4 hR (by rw [<-hR.1]; exact hpl) hG hw n0 S4
theorem sS (r:List Nat):NV r=(cQ r).map MS:=qR r
theorem BV {rss:List (List Nat)} {p:List Nat} (h:p.Pairwise (Ah λ i j=>HT.cC ((rss.map cQ).getD i []) ((rss.map cQ).getD j []))):p.Pairwise (Rk rss 0):=by
 refine h.imp λ {i j} hij=>?_
 have e:∀ i,(rss.map cQ).getD i []=cQ (rss.getD i []):=λ i=>by
  rw [C5,C5,De]
  cases rss[i]?<;>rfl
 obtain ⟨h1,h2⟩:=hij
 dsimp only at h1 h2
 rw [e,e] at h1 h2
 unfold Rk
 rw [DZ,DZ]
 rcases rf (rss.getD i []) (rss.getD j []) with q | q | q
 ·exact .inl q
 ·exact .inr ⟨q,h2 (by rw [q]; exact dF _)⟩
 ·have q':HT.cC (cQ (rss.getD j [])) (cQ (rss.getD i []))=true:=q
  rw [q'] at h1; cases h1
theorem lE {K:C7} {H:Hp} {Q:VK} {l:Addr} {ps:List Addr} {rss:List (List Nat)} {w:Nat} (tl:H l=some (.lst (ps.map MU))) (hR:RowsT H ps rss) (hG:Good rss w b) (hn:rss.length<=200)
  (k:∀ (d:Addr) (o:List Nat),H d=none->o.Perm (C9 rss.length)->o.Pairwise (Rk rss 0)->Q (.ref d) (upd H d (.lst ((o.map λ i=>ps.getD i 0).map MU)))):rq K [.ref l] H Q:=by
 have hpl:ps.length=rss.length:=hR.1
 have hw:∀ r∈rss,r.length=w:=λ r hr=>(hG r hr).1
 refine ⟨l,ps,rss.map cQ,rfl,MQ tl,by rw [C6]; exact hpl,by lia,λ i a r e1 e2=>?_,?_,λ d o hd hP hS=>?_⟩
 ·rw [De] at e2
  obtain ⟨r',er,rfl⟩:=EI.mp e2
  rw [<-sS]
  exact MR (hR.2 i a r' e1 er)
 ·rcases Fg w with h0 | h0
  ·refine .inl λ r hr=>?_
   obtain ⟨r',hr',rfl⟩:=DM.mp hr
   have:=hw r' hr'
   rw [h0] at this
   rw [Eo.mp this]; rfl
  ·refine .inr λ r hr z=>?_
   obtain ⟨r',hr',rfl⟩:=DM.mp hr
   have:=hw r' hr'
   have e:(cQ r').length=0:=by rw [z]; rfl
   unfold cQ at e
   rw [C6] at e
   lia
 have e0:(o.map λ i=>MU (ps.getD i 0))=(o.map λ i=>ps.getD i 0).map MU:=by rw [EB]; rfl
 rw [e0]
 exact k d o hd (by rw [<-hpl]; exact hP) (BV hS)
theorem vS {y:Str} {H:Hp} {Q:VK} (h:Q (.bl (!decide (MT x=MT y))) H):rNe (.str x) (.str y) H Q:=⟨rfl,h⟩
noncomputable def lF (xs:List (List Nat)):List PyData:=xs.map λ r=>JQ (pO r)
theorem sT:∀ {xs:List (List Nat)},(∀ r∈xs,r.length<=120/\∀ x∈r,x<64)->EC (lF xs)<=1000*xs.length
 | [],_=>C8 _
 | r::xs,h=>by
  have h1:=sT λ y hy=>h y (DE _ hy)
  obtain ⟨g1,g2⟩:=h r (DF ..)
  have h2:=sR g2
  show EC (JQ (pO r)::lF xs)<=_
  rw [EC,DD,Fp]
  lia
theorem gS {H:Hp} {t l:Addr} {xs:List (List Nat)} {m:Int} (ht:H t=some (.tup [.ref l,.int m])) (hl:H l=some (.lst (qs.map MU))) (R:RowsT H qs xs):DatE 3 H (.ref t) (.tuple [.list (lF xs),.int m]):=by
 refine DatE.tup ht rfl λ i u e e1 e2=>?_
 match i,e1,e2 with
 | 0,e1,e2=>
  cases e1; cases e2
  refine DatE.lst hl (by unfold lF; rw [C6,C6,R.1]) λ j u e e1 e2=>?_
  obtain ⟨q,rfl,hq,_,hj⟩:=aQ e1
  unfold lF at e2
  obtain ⟨r,er,rfl⟩:=EI.mp (by rw [<-De]; exact e2)
  refine DatE.tup (R.2 j q r hq er) (by rw [ax]; unfold pO; rw [C6]) λ k u e e1 e2=>?_
  obtain ⟨o,rfl,ho,_,_⟩:=aQ e1
  unfold pO at e2
  rw [De,ho] at e2
  cases e2
  exact DatE.int _
 | 1,e1,e2=>cases e1; cases e2; exact DatE.int _
 | i+2,e1,e2=>cases e1
theorem oM {H:Hp} {t l:Addr} {xs:List (List Nat)} (ht:H t=some (.tup [.ref l,.int (m:Nat)])) (hl:H l=some (.lst (qs.map MU))) (R:RowsT H qs xs) (hr:∀ r∈xs,r.length<=120/\∀ x∈r,x<64) (hn:xs.length<=200) (hm:m<=24000):DatAt 3 H (.ref t) (.tuple [.list (lF xs),.int (m:Nat)])/\(JQ [.list (lF xs),.int (m:Nat)]).weight<=2 ^ 20:=by
 have hM:((m:Nat):Int).natAbs<10 ^ 12:=by rw [Gf]; lia
 constructor
 ·refine .inr (.inr ⟨t,_,_,rfl,rfl,ht,rfl,λ i u e e1 e2=>?_⟩)
  match i,e1,e2 with
  | 0,e1,e2=>
   cases e1; cases e2
   refine .inr (.inl ⟨l,_,_,rfl,rfl,hl,by unfold lF; rw [C6,C6,R.1],λ j u e e1 e2=>?_⟩)
   obtain ⟨q,rfl,hq,_,hj⟩:=aQ e1
   unfold lF at e2
   obtain ⟨r,er,rfl⟩:=EI.mp (by rw [<-De]; exact e2)
   exact .inr (.inr ⟨q,_,_,rfl,rfl,R.2 j q r hq er,by rw [ax]; unfold pO; rw [C6],nE 0 (hr r (Ek er)).2⟩)
  | 1,e1,e2=>cases e1; cases e2; exact .inl ⟨_,rfl,rfl,hM⟩
  | i+2,e1,e2=>cases e1
 ·have h1:=sT hr
  have h5:(2:Nat) ^ 20=1048576:=by decide
  have h2:(Ju ((m:Nat):Int)).weight<=40:=by
   rw [Fp]
   split
   ·lia
   ·rename_i g
    rw [Gf]
    have h0:m≠0:=λ z=>g (by rw [z]; rfl)
    have:=(Hl h0).mpr (show m<2 ^ 15 by lia)
    lia
  rw [Fp,EC,EC,EC,Fp]
  lia
def vf (K:C7):Sp:=λ vs H Q _=>∃ (a:Addr) (ns:List Int),vs=[.ref a]/\SqL K H a (ns.map MS)/\ns.length<=63/\∀ H',Q (.bl true) H'
theorem An (T:Tx K mg t):FnOk P w K mg base CX0 7 t.yo t.yn ["_law_script"] (vf K):=by
 refine T.BW.okQ sc_law (λ vs H Q E h=>?_) (λ cdv A outer s H vs Q E hr h=>?_)
 ·obtain ⟨a,ns,rfl,_⟩:=h
  rfl
 ·obtain ⟨a,ns,rfl,hS,hlen,k⟩:=h
  refine ⟨_,(ac (dC D4 rfl (dB rfl T.c6 (al (aU cK ag (ay (zD rfl) (by rfl) T.vg Ac (al ag (al (ay (bt (K:=K)) (by rfl) T.cA bx (al (qv 0) ad)) ad)))) ad)) (ak (i:=1) sc_law.nd rfl (Di rfl)) (ac (au (i:=2) sc_law.nd rfl (FE rfl) (av (xT T) (hr.mono (by decide)) rfl T.Ay T.vX.kp T.At aK (al (qv 0) (al (qv 1) ad))))
   (ac (au (i:=3) sc_law.nd rfl (Di rfl) (av (xY T) (hr.mono (by decide)) rfl T.Au T.vT.kp T.Ap aK (al (qv 2) ad)))
   (ac (au (i:=4) sc_law.nd rfl (Di rfl) (av (yl T) (hr.mono (by decide)) rfl T.Ax T.vW.kp T.As aK (al (qv 2) (al (av (xW T) (hr.mono (by decide)) rfl T.Av T.vU.kp T.Aq aK (al (qv 2) (al (qv 1) ad))) (al (qv 3) ad)))))
   (ac (au (i:=5) sc_law.nd rfl (Di rfl) (ay (bt (K:=K)) (by rfl) T.cA bx (al (aC (bg (K:=K)) (aU BC (bC (al (bo ad) ad)) (qv 4)) (xi xn ag)) ad)))
   (ac (au (i:=6) sc_law.nd rfl (Di rfl) (bo (al (ay (uN (K:=K) hr.units) (by rfl) T.g5 su (al (qv 4) ad)) (al (av (yi T) (hr.mono (by decide)) rfl T.Aw T.vV.kp T.Ar aK (al (qv 4) (al (qv 3) (al (qv 5) ad)))) ad))))
   (ac (kR (i:=7) (N:=["_law_row","_law_tape_here"]) (tgs:=["_law_row"]) (frs:=["_law_tape_here"]) (ix:=[2])  sc_law.nd rfl (Di rfl) ⟨rfl,by decide +kernel,rfl,by decide +kernel,rfl,rfl,⟨⟨rfl,rfl,_,rfl,rfl⟩,Dv⟩,⟨rfl,Dv⟩,rfl⟩ rfl (bc (K:=K) (qv 4)) (λ _ _ _ _=>(ak (i:=0) (by show DW (["_law_row","_law_tape_here"]:List Str); decide +kernel) rfl (Di rfl))) (λ _ _ _ _=>(aC (bg (K:=K)) (bC (al (qv 0) (al (aV (mY (K:=K)) (by rfl) T.gZ jG (al (qv 0) ad)) ad))) (av (bK T) (hr.mono (by decide)) rfl T.c5 T.cF.kp T.cV aK (al (qv 1) (al ag ad))))))
   (ac (dC D4 rfl (qK (K:=K) (bo (al (qv 4) (al (aV (gu (K:=K)) (by rfl) T.dy dU (al (qv 4) ad)) (al (bF (N:=["_law_row"]) (tgs:=["_law_row"]) (frs:=[]) (ix:=[]) ⟨rfl,by decide +kernel,rfl,by decide +kernel,rfl,rfl,Dv,Dv,rfl⟩ rfl (bc (K:=K) (qv 4)) (λ _ _ _ _=>(ak (i:=0) (by show DW (["_law_row"]:List Str); decide +kernel) rfl (Di rfl))) (λ _ _ _ _=>(aV (mY (K:=K)) (by rfl) T.gZ jG (al (qv 0) ad)))) (al (qv 7) ad)))))) (ak (i:=8) sc_law.nd rfl (Di rfl)) (ac (au (i:=9) sc_law.nd rfl (Di rfl) (aV (kY hr.gd hr.units) (by rfl) T.nK oH (al (qv 8) ad)))
   (ac (au (i:=10) sc_law.nd rfl (Di rfl) (av (fC T) (hr.mono (by decide)) rfl T.gY T.dW.kp T.gX aK (al (qv 8) (al (qv 3) ad))))
   (am (di (QW.qt (xj (aB (zY hr.units) (qv 10) (qv 6) (aG _)) (xj (aB Ci (aV (kY hr.gd hr.units) (by rfl) T.nK oH (al (qv 10) ad)) (aV (kY hr.gd hr.units) (by rfl) T.nK oH (al (qv 6) ad)) (aG _)) (vv (aB Ci (aV (kY hr.gd hr.units) (by rfl) T.nK oH (al (qv 8) ad)) (qv 9) (aG _)))))) (am (aD xh)) bP)))))
   (am (di (aB (zY hr.units) (av (fC T) (hr.mono (by decide)) rfl T.gY T.dW.kp T.gX aK (al (aC (dD (K:=K)) (qv 6) ag) (al (qv 3) ad))) (bo (al (aC (dD (K:=K)) (qv 6) ag) (al ag ad))) (aG _)) (am (aD xh)) bP))))))))))
   (am (aD xh))),?_⟩
  rw [show L2.start ["_law_script","_law_k","_law_tape_here","_law_base_here","_law_rows_here","_law_columns","_law_due","_law_mixed","_law_handed","_law_kept","_law_found"] [MU a]=[some (MU a),none,none,none,none,none,none,none,none,none,none] from rfl]
  nofun
  refine bb hS ?_
  nofun
  have hml:(Ks MS ns).length=ns.length:=C6 ..
  refine ⟨_,rfl,by (repeat' split)<;>lia,by (repeat' split)<;>lia,eQ (λ i σ H'=>Same H H'/\∃ v1 v2 v3 v4 v5 v6 v7 v8 v9 va,σ=[some (MU a),v1,v2,v3,v4,v5,v6,v7,v8,v9,va]) ⟨MW _,_,_,_,_,_,_,_,_,_,_,rfl⟩ ?_ ?_⟩
  ·rintro i σ H' hi ⟨sm,v1,v2,v3,v4,v5,v6,v7,v8,v9,va,rfl⟩
   nofun
   refine ⟨a,ns,_,rfl,sm.seq hS,by lia,λ p H1 hp0 same T1=>?_⟩
   have hpn:H p=none:=sm.free hp0
   nofun
   refine ⟨p,rfl,T1,λ b H2 hb hb2 S2=>?_⟩
   nofun
   refine ⟨p,_,rfl,S2.tape,λ n H3 hn S3=>?_⟩
   nofun
   refine ⟨p,n,b,rfl,S3.tape,hn,hb,hb2,λ l ps rss w H4 hl0 tl hR hrl hG hw hlp S4=>?_⟩
   have S04:=((S2.trans S3).trans S4)
   have sm4:Same H H4:=λ c u e=>S04.keep c u (same c u (sm c u e)) (ae e hpn)
   have hpl:ps.length=rss.length:=hR.1
   have T4:=S4.tape
   nofun
   refine ⟨aL (by simp),λ e0 he0=>?_⟩
   have s5:=(MW H4).new (o:=.tup []) he0
   have te0:(upd H4 e0 (.tup [])) e0=some (.tup []):=ab
   generalize upd H4 e0 (.tup [])=H5 at s5 te0
   nofun
   refine ⟨aL (by simp),λ z0 hz0=>?_⟩
   have s6:=s5.new (o:=.lst [MU e0]) hz0
   have s56:=(MW H5).new (o:=.lst [MU e0]) hz0
   have tz0:(upd H5 z0 (.lst [MU e0])) z0=some (.lst [MU e0]):=ab
   generalize upd H5 z0 (.lst [MU e0])=H6 at s6 s56 tz0
   nofun
   refine ⟨z0,l,_,_,rfl,rfl,tz0,s6 _ _ tl,EN (ap (by rw [C6]; simp; lia)),λ cl hcl=>?_⟩
   have s7:=s6.new (o:=.lst ([MU e0]++ps.map MU)) hcl
   have s67:=(MW H6).new (o:=.lst ([MU e0]++ps.map MU)) hcl
   have tcl:(upd H6 cl (.lst ([MU e0]++ps.map MU))) cl=some (.lst ([MU e0]++ps.map MU)):=ab
   generalize upd H6 cl (.lst ([MU e0]++ps.map MU))=H7 at s7 s67 tcl
   have R7:=hR.same s7
   have hlast:∃ (q:Addr) (zs:List V),atI ([MU e0]++ps.map MU) (-1)=some (MU q)/\H7 q=some (.tup zs)/\zs.length=bX rss w:=by
    by_cases h0:rss=[]
    ·have hp0:ps=[]:=Eo.mp (by rw [hpl,h0]; rfl)
     refine ⟨e0,[],by rw [hp0]; rfl,s67 _ _ (s56 _ _ te0),?_⟩
     unfold bX; rw [if_pos h0]; rfl
    ·have hpp:0<rss.length:=GB.mpr h0
     have hi:rss.length - 1<rss.length:=by lia
     have hip:rss.length - 1<ps.length:=by lia
     refine ⟨ps[rss.length - 1],_,xt ?_,R7.2 _ _ _ (C4 hip) (C4 hi),?_⟩
     ·rw [Dy (by rw [Dg,C6]; simp; lia),Dg,C6,De]
      have:([MU e0]:List V).length+ps.length - 1 - ([MU e0]:List V).length=rss.length - 1:=by simp; lia
      rw [this,C4 hip]; rfl
     ·rw [ax,(hG _ (Dl hi)).1]; unfold bX; rw [if_neg h0]
   obtain ⟨q,zs,hq1,hq2,hq3⟩:=hlast
   nofun
   refine br (MQ tcl) (v:=MU q) hq1 ?_
   nofun
   refine qI (MR hq2) ?_
   rw [hq3]
   nofun
   refine lE (s7 _ _ tl) R7 hG (by lia) λ sd os hsd hP hS=>?_
   have s8:=s7.new (o:=.lst ((os.map λ i=>ps.getD i 0).map MU)) hsd
   have tsd:(upd H7 sd (.lst ((os.map λ i=>ps.getD i 0).map MU))) sd=some (.lst ((os.map λ i=>ps.getD i 0).map MU)):=ab
   have hosm:∀ i∈os,i<rss.length:=λ i hi=>DN.mp (hP.mem_iff.mp hi)
   have Rs8:=(R7.same ((MW H7).new (o:=.lst ((os.map λ i=>ps.getD i 0).map MU)) hsd)).pick hosm
   generalize upd H7 sd (.lst ((os.map λ i=>ps.getD i 0).map MU))=H8 at s8 tsd Rs8
   have hC:∀ r∈rss,r.length=bX rss w/\∀ x∈r,x<b:=λ r hr=>⟨by unfold bX; rw [(hG r hr).1,if_neg (λ z=>by rw [z] at hr; cases hr)],(hG r hr).2⟩
   nofun
   refine ⟨l,ps,rss,b,bX rss w,rfl,s8 _ _ tl,hR.same s8,hC,by lia,by unfold bX; split<;>lia,hb2,λ H9 s9=>?_⟩
   nofun
   refine ⟨aL (by simp),λ du hdu=>?_⟩
   have sA9:=(MW H9).new (o:=.tup [MU sd,MS (hT b (bX rss w) 0 rss:Nat)]) hdu
   have tdu:(upd H9 du (.tup [MU sd,MS (hT b (bX rss w) 0 rss:Nat)])) du=some (.tup [MU sd,MS (hT b (bX rss w) 0 rss:Nat)]):=ab
   generalize upd H9 du (.tup [MU sd,MS (hT b (bX rss w) 0 rss:Nat)])=HA at sA9 tdu
   have s8A:=s9.trans sA9
   have tsdA:=s8A _ _ tsd
   have RsA:=Rs8.same s8A
   have s4A:=s8.trans s8A
   have TA:=T4.same s4A
   have tlA:=s4A _ _ tl
   have RA:=hR.same s4A
   have hsdp:sd≠p:=(T4.same s7).ne hsd
   nofun
   refine ⟨l,rfl,⟨_,MQ tlA⟩,bp (a:=l) (vs:=ps.map MU) (λ i ys σ H'=>St2 p HA H'/\(∃ qs:List Addr,ys=qs.map MU/\qs.length=i/\i<=ps.length/\RowsS H' qs (rss.take i)/\∀ q∈qs,q≠p)/\∃ v,σ=[v,some (MU p)]) (by rw [C6]; exact ap (by lia)) (λ i ys σ H' h=>by obtain ⟨_,⟨qs,rfl,e,_⟩,_⟩:=h; rw [C6,e]) (λ i ys σ H' h=>MQ (h.1.keep _ _ tlA hlp)) ⟨St2.refl TA,⟨[],rfl,rfl,Du _,⟨rfl,λ i p z h=>by simp at h⟩,λ q h=>nomatch h⟩,none,rfl⟩ ?_ ?_⟩
   ·rintro i ys σ H9 x hx ⟨S9,⟨qs,rfl,hql,_,hQ,hqp⟩,v,rfl⟩
    obtain ⟨q,rfl,hq,_,hil⟩:=aQ hx
    have hit:i<rss.length:=by lia
    have et:rss.take (i+1)=rss.take i++[rss[i]]:=by rw [Dz]; simp [hit]
    have trq0:=RA.2 i q rss[i] hq (by simp [hit])
    have hqne:q≠p:=u5 TA trq0
    have trq:=S9.keep _ _ trq0 hqne
    nofun
    refine l0 (.inr (MR trq)) λ l2 hl2=>?_
    have hl2p:l2≠p:=S9.tape.ne hl2
    have sA:=(MW H9).new (o:=.lst (NV rss[i])) hl2
    have tl2:(upd H9 l2 (.lst (NV rss[i]))) l2=some (.lst (NV rss[i])):=ab
    generalize upd H9 l2 (.lst (NV rss[i]))=HX at sA tl2
    nofun
    refine ⟨aL (by simp),λ l3 hl3=>?_⟩
    have sB:=(MW HX).new (o:=.lst [MU q,MU l2]) hl3
    have tl3:(upd HX l3 (.lst [MU q,MU l2])) l3=some (.lst [MU q,MU l2]):=ab
    have hl3p:l3≠p:=(S9.tape.same sA).ne hl3
    generalize upd HX l3 (.lst [MU q,MU l2])=HY at sB tl3
    have TB:=(S9.tape.same sA).same sB
    nofun
    refine ⟨p,2,rfl,TB,by decide,by decide,λ r HZ hr SC=>?_⟩
    have S9C:St2 p H9 HZ:=⟨λ c u e1 e2=>SC.keep c u (sB _ _ (sA c u e1)) e2,SC.tape⟩
    obtain ⟨u,e,hu⟩:=g7 (xs:=[MU q,MU l2]) (r:=(r:Int)) (by lia) (by simp only [DD,E6]; lia)
    refine br (MQ (SC.keep _ _ tl3 hl3p)) e ?_
    have hu':∃ c,u=MU c/\c≠p/\(HZ c=some (.lst (NV rss[i]))\/HZ c=some (.tup (NV rss[i]))):=by
     simp only [Dx,Ed,or_false] at hu
     rcases hu with rfl | rfl
     ·exact ⟨q,rfl,hqne,.inr (S9C.keep _ _ trq hqne)⟩
     ·exact ⟨l2,rfl,hl2p,.inl (SC.keep _ _ (sB _ _ tl2) hl2p)⟩
    obtain ⟨c,rfl,hcp,hc⟩:=hu'
    refine MX (by rw [C6]; exact hil) ⟨S9.trans S9C,⟨qs++[c],by rw [Dr]; rfl,by simp [hql],hil,?_,λ q' hq'=>?_⟩,_,rfl⟩
    ·rw [et]
     refine ⟨by rw [Dg,Dg,hQ.1]; rfl,λ i2 q2 y a2 c2=>?_⟩
     rcases aN a2 with ⟨l',a2⟩ | ⟨l',a2⟩
     ·rcases aN c2 with ⟨_,c2⟩ | ⟨l'',c2⟩
      ·have hq2:=hqp q2 (Ek a2)
       exact (hQ.2 i2 q2 y a2 c2).elim (λ h=>.inl (S9C.keep _ _ h hq2)) (λ h=>.inr (S9C.keep _ _ h hq2))
      ·have:=hQ.1; lia
     ·rcases aN c2 with ⟨l'',c2⟩ | ⟨_,c2⟩
      ·have:=hQ.1; lia
      ·rw [a2,c2]; exact hc
    ·rcases DG.mp hq' with g | g
     ·exact hqp q' g
     ·rw [Dk.mp g]; exact hcp
   rintro ys σ HB ⟨SB,⟨ms,rfl,hml2,_,hM,hmp⟩,v,rfl⟩ mx hmx
   rw [C6] at hml2 hM
   rw [Da (by lia)] at hM
   have sBC:=(MW HB).new (o:=.lst (ms.map MU)) hmx
   have tmx:(upd HB mx (.lst (ms.map MU))) mx=some (.lst (ms.map MU)):=ab
   generalize upd HB mx (.lst (ms.map MU))=HC at sBC tmx
   have SAC:St2 p HA HC:=⟨λ c u e1 e2=>sBC _ _ (SB.keep c u e1 e2),SB.tape.same sBC⟩
   have tlC:=SAC.keep _ _ tlA hlp
   have RC:=RA.st2 TA SAC
   have tsdC:=SAC.keep _ _ tsdA hsdp
   have RsC:=RsA.st2 TA SAC
   have tduC:=SAC.keep _ _ tdu (u5 TA tdu)
   have MC:=hM.same sBC
   have smC:Same H HC:=λ c u e=>SAC.keep c u (s4A _ _ (sm4 c u e)) (ae e hpn)
   nofun
   refine ji (MQ tlC) λ tt htt=>?_
   have sD:=(MW HC).new (o:=.tup (ps.map MU)) htt
   have ttt:(upd HC tt (.tup (ps.map MU))) tt=some (.tup (ps.map MU)):=ab
   generalize upd HC tt (.tup (ps.map MU))=HD at sD ttt
   nofun
   refine ⟨l,rfl,⟨_,MQ (sD _ _ tlC)⟩,bp (a:=l) (vs:=ps.map MU) (λ i ys σ H'=>Same HD H'/\(∃ qs:List Addr,ys=qs.map MU/\qs.length=i/\LsAt H' qs (rss.take i))/\∃ v,σ=[v]) (by rw [C6]; exact ap (by lia)) (λ i ys σ H' h=>by obtain ⟨_,⟨qs,rfl,e,_⟩,_⟩:=h; rw [C6,e]) (λ i ys σ H' h=>MQ (h.1 _ _ (sD _ _ tlC))) ⟨MW _,⟨[],rfl,rfl,rfl,λ i p r h=>by simp at h⟩,none,rfl⟩ ?_ ?_⟩
   ·rintro i ys σ H6 x hx ⟨s6,⟨qs,rfl,hql,hQ⟩,v,rfl⟩
    obtain ⟨q,rfl,hq,_,hil⟩:=aQ hx
    have hit:i<rss.length:=by lia
    nofun
    refine l0 (.inr (MR (((RC.same sD).same s6).2 i q rss[i] hq (by simp [hit])))) λ l2 hl2=>?_
    refine MX (by rw [C6]; exact hil) ⟨s6.new hl2,⟨qs++[l2],by rw [Dr]; rfl,by simp [hql],?_⟩,_,rfl⟩
    rw [Dz,C4 hit]
    exact (hQ.same ((MW _).new hl2)).snoc ab
   rintro ys σ HE ⟨sE,⟨us,rfl,hul,hU⟩,v,rfl⟩ z hz
   rw [C6] at hul hU
   rw [Da (by lia)] at hU
   have sF:=(MW HE).new (o:=.lst (us.map MU)) hz
   have tz:(upd HE z (.lst (us.map MU))) z=some (.lst (us.map MU)):=ab
   generalize upd HE z (.lst (us.map MU))=HF at sF tz
   nofun
   refine ⟨aL (by simp),λ tp htp=>?_⟩
   have sG:=(MW HF).new (o:=.tup [MU l,MU tt,MU z,MU mx]) htp
   have ttp:(upd HF tp (.tup [MU l,MU tt,MU z,MU mx])) tp=some (.tup [MU l,MU tt,MU z,MU mx]):=ab
   generalize upd HF tp (.tup [MU l,MU tt,MU z,MU mx])=HG at sG ttp
   have sDG:=(sE.trans sF).trans sG
   have sCG:=sD.trans sDG
   have one:∀ os':List Nat,os'.Perm (C9 rss.length)->os'.Pairwise (Rk rss 0)->os'=os:=λ os' h1 h2=>g8 (λ i j a b=>Rk.asymm a b) (h1.trans hP.symm) h2 hS
   nofun
   have hGr:∀ (os':List Nat),os'.Perm (C9 rss.length)->∀ r∈os'.map (λ i=>rss.getD i []),r∈rss:=λ os' h r hr=>by
    obtain ⟨i,hi,rfl⟩:=DM.mp hr
    have hi':=DN.mp (h.mem_iff.mp hi)
    rw [C5,C4 hi']
    exact Dl _
   have hGw:∀ r∈os.map (λ i=>rss.getD i []),r.length<=120/\∀ x∈r,x<64:=λ r hr=>by
    obtain ⟨g1,g2⟩:=hG r (hGr os hP r hr)
    exact ⟨by lia,λ x hx=>by have:=g2 x hx; lia⟩
   have hol:os.length=rss.length:=by rw [hP.length_eq,DR]
   have hTm:hT b (bX rss w) 0 rss<=24000:=by
    have h1:=Aa (b:=b) (bX rss w) 0 (xs:=rss) λ r hr=>by rw [EG]; exact hC r hr
    have h2:bX rss w<=120:=by unfold bX; split<;>lia
    have h3:=KS h2 (show rss.length<=200 by lia)
    lia
   have tduG:=sCG _ _ tduC
   have tsdG:=sCG _ _ tsdC
   have RsG:=RsC.same sCG
   refine ⟨tp,rfl,⟨_,MR ttp⟩,wD (a:=tp) (xs:=[MU l,MU tt,MU z,MU mx]) (λ i' σ H'=>Same HG H'/\∃ v8 v9 va,σ=[some (MU a),some (MS (0+(i:Int))),some (MU p),some (MS b),some (MU l),some (MS (bX rss w:Nat)),some (MU du),some (MU mx),v8,v9,va]) ⟨MW _,_,_,_,rfl⟩ (λ i σ H' _ h=>MR (h.1 _ _ ttp)) ?_ ?_⟩
   ·rintro j x σ HI hx ⟨sI,v8,v9,va,rfl⟩
    have hx':∃ (d:Addr) (qs:List Addr),x=.ref d/\(HI d=some (.lst (qs.map MU))\/HI d=some (.tup (qs.map MU)))/\RowsS HI qs rss:=by
     have hm:=Ek hx
     simp only [Dx,Ed,or_false] at hm
     rcases hm with rfl | rfl | rfl | rfl
     ·exact ⟨l,ps,rfl,.inl (sI _ _ (sCG _ _ tlC)),((RC.same sCG).same sI).toS⟩
     ·exact ⟨tt,ps,rfl,.inr (sI _ _ (sDG _ _ ttt)),((RC.same sCG).same sI).toS⟩
     ·exact ⟨z,us,rfl,.inl (sI _ _ (sG _ _ tz)),LsAt.toS (((hU.same sF).same sG).same sI)⟩
     ·exact ⟨mx,ms,rfl,.inl (sI _ _ (sCG _ _ tmx)),(MC.same sCG).same sI⟩
    obtain ⟨d,qs,rfl,hd,hQ⟩:=hx'
    obtain ⟨D,hD,hDw⟩:=yk hd hQ hG (by lia) hw hb2
    nofun
    refine kZ hD hDw ?_
    nofun
    refine ⟨d,qs,rss,w,b,rfl,hd,hQ,hG,by lia,hw,hb2,λ t' l' qs' os' HJ ht' hl' sJ tt' tl' Rl hop hpw=>?_⟩
    have eos:=one os' hop hpw
    subst eos
    have sGJ:=sI.trans sJ
    have tduJ:=sGJ _ _ tduG
    have tsdJ:=sGJ _ _ tsdG
    have RsJ:=RsG.same sGJ
    obtain ⟨D1,W1⟩:=oM tt' tl' Rl hGw (by rw [C6]; lia) hTm
    obtain ⟨D2,W2⟩:=oM tduJ tsdJ RsJ hGw (by rw [C6]; lia) hTm
    nofun
    refine mt (gS tt' tl' Rl) (gS tduJ tsdJ RsJ) (by decide) ?_
    nofun
    refine kZ D1 W1 ?_
    nofun
    refine kZ D2 W2 ?_
    nofun
    refine vS ?_
    nofun
    refine qH rfl ?_
    nofun
    refine kZ (hD.same sJ) hDw ?_
    nofun
    refine vS ?_
    nofun
    refine qH rfl ?_
    exact ⟨sGJ,_,_,_,rfl⟩
   ·rintro σ HI ⟨sI,v8,v9,va,rfl⟩
    nofun
    have tduI:=sI _ _ tduG
    have tsdI:=sI _ _ tsdG
    have RsI:=RsG.same sI
    have hGs:Good (os.map λ i=>rss.getD i []) w b:=λ r hr=>hG r (hGr os hP r hr)
    have hsl:(os.map λ i=>rss.getD i []).length=rss.length:=by rw [C6]; exact hol
    have hsr:(os.map λ i=>rss.getD i []).Pairwise λ r s=>¬ lxt s r=true:=by
     rw [Fk]
     refine hS.imp λ {i j} g z=>?_
     unfold Rk at g
     rw [DZ,DZ] at g
     rcases g with g | ⟨g,_⟩
     ·exact me g z
     ·rw [g,dF] at z; cases z
    generalize (os.map λ i=>ps.getD i 0)=sps at tsdI RsI
    generalize (os.map λ i=>rss.getD i [])=srt at RsI hGs hsl hsr hGw
    have hCs:∀ r∈srt,r.length=bX srt w/\∀ x∈r,x<b:=λ r hr=>⟨by unfold bX; rw [(hGs r hr).1,if_neg (λ z=>by rw [z] at hr; cases hr)],(hGs r hr).2⟩
    have hT0:hT b (bX srt w) 0 srt=0:=mH (bX srt w) 0 (λ r hr=>by rw [EG]; exact hCs r hr) (hsr.imp λ {r s} g=>by rw [DZ,DZ]; exact g)
    have hrg:(C9 srt.length).Pairwise (Rk srt 0):=by
     rw [DK]
     intro i j hi hj hij
     rw [DR] at hi hj
     rw [Gg,Gg]
     have g:=(DK.mp hsr) i j hi hj hij
     unfold Rk
     rw [DZ,DZ,C5,C4 hi,C5,C4 hj]
     show lxt srt[i] srt[j]=true\/srt[i]=srt[j]/\i<j
     rcases rf srt[i] srt[j] with q | q | q
     ·exact .inl q
     ·exact .inr ⟨q,hij⟩
     ·exact absurd q g
    refine gr (MR tduI) (v:=MU sd) rfl ?_
    nofun
    refine ⟨sd,sps,srt,w,b,rfl,.inl tsdI,RsI.toS,hGs,by lia,hw,hb2,λ t' l' qs' os' HJ ht' hl' sJ tt' tl' Rl hop hpw=>?_⟩
    have eos:os'=C9 srt.length:=g8 (λ i j a b=>Rk.asymm a b) hop hpw hrg
    rw [eos,rgD] at Rl
    rw [hT0] at tt'
    nofun
    refine gr (MR (sJ _ _ tduI)) (v:=MU sd) rfl ?_
    nofun
    refine ⟨aL (by simp),λ y0 hy0=>?_⟩
    have sK:=(MW HJ).new (o:=.tup [MU sd,MS 0]) hy0
    have ty0:(upd HJ y0 (.tup [MU sd,MS 0])) y0=some (.tup [MU sd,MS 0]):=ab
    generalize upd HJ y0 (.tup [MU sd,MS 0])=HK at sK ty0
    refine mt (gS (sK _ _ tt') (sK _ _ tl') (Rl.same sK)) (gS ty0 ((sJ.trans sK) _ _ tsdI) (RsI.same (sJ.trans sK))) (by decide) ?_
    nofun
    exact ⟨smC.trans (sCG.trans (sI.trans (sJ.trans sK))),_,_,_,_,_,_,_,_,_,_,rfl⟩
  ·rintro σ H' ⟨sm,v1,v2,v3,v4,v5,v6,v7,v8,v9,va,rfl⟩
   nofun
   exact k _
end
theorem pP {α:Type} {P:List α->Prop} (h:∀ x0:α,P [x0]):∀ us:List α,us.length=1->P us
 | [x0],_=>h x0
theorem pW {α:Type} {P:List α->Prop} (h:∀ x0 x1:α,P [x0,x1]):∀ us:List α,us.length=2->P us
 | [x0,x1],_=>h x0 x1
theorem yy {α:Type} {P:List α->Prop} (h:∀ x0 x1 x2:α,P [x0,x1,x2]):∀ us:List α,us.length=3->P us
 | [x0,x1,x2],_=>h x0 x1 x2
theorem Ao {l:IS} {w:World} {K:C7} {mg:Str->Option Value} {fa f0 f1 f2 f3 f4 f5 f6 f7 f8 f9 f10 f11 f12 f13 f14 f15 f16 f17 f18 f19 f20 f21 f22 f23 f24 f25 f26 f27 f28 f29 f30 aa:Addr} {d0 d1 d2 d3 d4 d5 d6 d7 d8 d9 d10 d11 d12 d13 d14 d15 d16 d17 d18 d19 d20 d21 d22 d23 d24 d25 d26 d27 d28 d29:FuncData} (X:K.In h) (G:h.Ns mainGlobals mg) (hfa:mg "law" = some (.ref fa))
  (a0:DJ K mainGlobals "counts" = some (some (.ref f0))) (F0:Fun K "counts" "counts" lz f0 d0)
  (a1:DJ K mainGlobals "begins" = some (some (.ref f1))) (F1:Fun K "begins" "begins" lA f1 d1)
  (a2:DJ K mainGlobals "many_columns" = some (some (.ref f2))) (F2:Fun K "many_columns" "many_columns" dj f2 d2)
  (a3:DJ K mainGlobals "is_parted" = some (some (.ref f3))) (F3:Fun K "is_parted" "is_parted" fN f3 d3)
  (a4:DJ K mainGlobals "order_by_figure" = some (some (.ref f4))) (F4:Fun K "order_by_figure" "order_by_figure" cq f4 d4)
  (a5:DJ K mainGlobals "parts_of" = some (some (.ref f5))) (F5:Fun K "parts_of" "parts_of" ie f5 d5)
  (a6:DJ K mainGlobals "from_first" = some (some (.ref f6))) (F6:Fun K "from_first" "from_first" e7 f6 d6)
  (a7:DJ K mainGlobals "own_copy" = some (some (.ref f7))) (F7:Fun K "own_copy" "own_copy" ig f7 d7)
  (a8:DV K (.ref aa) "__init__" = some (some (.ref f8))) (i8:EY K (.ref f8)=true) (F8:Fun K "__init__" "HeapWalk.__init__" bI f8 d8)
  (a9:DV K (.ref aa) "mark_of" = some (some (.ref f9))) (i9:EY K (.ref f9)=true) (F9:Fun K "mark_of" "HeapWalk.mark_of" bW f9 d9)
  (a10:DV K (.ref aa) "stands" = some (some (.ref f10))) (i10:EY K (.ref f10)=true) (F10:Fun K "stands" "HeapWalk.stands" cr f10 d10)
  (a11:DV K (.ref aa) "step" = some (some (.ref f11))) (i11:EY K (.ref f11)=true) (F11:Fun K "step" "HeapWalk.step" cS f11 d11)
  (a12:DV K (.ref aa) "take_first" = some (some (.ref f12))) (i12:EY K (.ref f12)=true) (F12:Fun K "take_first" "HeapWalk.take_first" bv f12 d12)
  (a13:DV K (.ref aa) "put_held" = some (some (.ref f13))) (i13:EY K (.ref f13)=true) (F13:Fun K "put_held" "HeapWalk.put_held" bJ f13 d13)
  (a14:DV K (.ref aa) "row" = some (some (.ref f14))) (i14:EY K (.ref f14)=true) (F14:Fun K "row" "HeapWalk.row" dk f14 d14)
  (a15:DV K (.ref aa) "hand" = some (some (.ref f15))) (i15:EY K (.ref f15)=true) (F15:Fun K "hand" "HeapWalk.hand" fc f15 d15)
  (a16:DV K (.ref aa) "puts" = some (some (.ref f16))) (i16:EY K (.ref f16)=true) (F16:Fun K "puts" "HeapWalk.puts" cT f16 d16)
  (a17:DJ K mainGlobals "walked" = some (some (.ref f17))) (F17:Fun K "walked" "walked" lB f17 d17)
  (a18:DJ K mainGlobals "heap_sorted" = some (some (.ref f18))) (F18:Fun K "heap_sorted" "heap_sorted" dQ f18 d18)
  (a19:DJ K mainGlobals "_law_tape" = some (some (.ref f19))) (F19:Fun K "_law_tape" "_law_tape" se f19 d19)
  (a20:DJ K mainGlobals "_law_draw" = some (some (.ref f20))) (F20:Fun K "_law_draw" "_law_draw" sf f20 d20)
  (a21:DJ K mainGlobals "_law_many" = some (some (.ref f21))) (F21:Fun K "_law_many" "_law_many" si f21 d21)
  (a22:DJ K mainGlobals "_law_base" = some (some (.ref f22))) (F22:Fun K "_law_base" "_law_base" sj f22 d22)
  (a23:DJ K mainGlobals "_law_rows" = some (some (.ref f23))) (F23:Fun K "_law_rows" "_law_rows" sk f23 d23)
  (a24:DJ K mainGlobals "_law_part_begins" = some (some (.ref f24))) (F24:Fun K "_law_part_begins" "_law_part_begins" dR f24 d24)
  (a25:DJ K mainGlobals "_law_mark" = some (some (.ref f25))) (F25:Fun K "_law_mark" "_law_mark" sn f25 d25)
  (a26:DJ K mainGlobals "_law_next_move" = some (some (.ref f26))) (F26:Fun K "_law_next_move" "_law_next_move" fO f26 d26)
  (a27:DJ K mainGlobals "_law_state" = some (some (.ref f27))) (F27:Fun K "_law_state" "_law_state" nz f27 d27)
  (a28:DJ K mainGlobals "_law_walked" = some (some (.ref f28))) (F28:Fun K "_law_walked" "_law_walked" ii f28 d28)
  (a29:DJ K mainGlobals "_law_puts" = some (some (.ref f29))) (F29:Fun K "_law_puts" "_law_puts" sq f29 d29)
  (a30:DJ K mainGlobals "law" = some (some (.ref f30)))
  {oc30 kV30 dc30 pm30 cd30 ct30:Value} {od30 an30:Option Addr} {sl30:Array (Option Value)}
  (l30:K.lookup f30=some ⟨oc30,od30,.func (Gu "law" "law" (jh pN) (fH pN) (ao pN) .none kV30 dc30 pm30 an30 cd30 ct30),sl30⟩) (c30:Hg K cd30 "law" = true) (k30:Fd K (.ref f30)=true)
  (tU:DJ K mainGlobals "abs" = some none)
  (cy:DJ K mainGlobals "enumerate" = some none)
  (pU:DJ K mainGlobals "int" = some none)
  (bR:DJ K mainGlobals "isinstance" = some none)
  (cA:DJ K mainGlobals "len" = some none)
  (gZ:DJ K mainGlobals "list" = some none)
  (vg:DJ K mainGlobals "min" = some none)
  (c6:DJ K mainGlobals "range" = some none)
  (vh:DJ K mainGlobals "set" = some none)
  (g5:DJ K mainGlobals "sorted" = some none)
  (nK:DJ K mainGlobals "str" = some none)
  (dy:DJ K mainGlobals "tuple" = some none)
  (tV:DJ K mainGlobals "zip" = some none)
  (ac_HeapWalk:DJ K mainGlobals "HeapWalk" = some (some (.ref aa)))
  (pg_HeapWalk:Gx K aa Mp=true)
  (hd_HeapWalk:GM K aa=true)
  (po_HeapWalk:Ie K aa=true)
  (sa_HeapWalk:DV K (.ref aa) "__setattr__" = some (some (.builtin "object.__setattr__")))
  (mk_HeapWalk:IQ K aa=true)
  (kc_HeapWalk:Fd K (.ref aa)=true)
  (aA:DV K (.ref aa) "pairs" = some none)
  (aH:DV K (.ref aa) "held" = some none)
  (aJ:DV K (.ref aa) "marks" = some none)
  (aX:DV K (.ref aa) "ends" = some none)
  (aI:DV K (.ref aa) "many_puts" = some none) :
  ∃ fd:FuncData,(∀ (s:Shared) (v:Value),BindsTo s fd ⟨[v],[]⟩ [("_law_script",v)])/\∀ base:Heap,K.In base->base.Ns mainGlobals mg->FnOk l.prog w K mg base CX0 7 fa fd ["_law_script"] (vf K):=by
 have e:=hfa.symm.trans (DY X G a30)
 cases e
 have b0:=F0.binds (ps:=["row","base"]) λ _ _ _ _ _ _=>pW (λ _ _=>rfl)
 have b1:=F1.binds (ps:=["counts"]) λ _ _ _ _ _ _=>pP (λ _=>rfl)
 have b2:=F2.binds (ps:=["rows"]) λ _ _ _ _ _ _=>pP (λ _=>rfl)
 have b3:=F3.binds (ps:=["often"]) λ _ _ _ _ _ _=>pP (λ _=>rfl)
 have b4:=F4.binds (ps:=["row","base"]) λ _ _ _ _ _ _=>pW (λ _ _=>rfl)
 have b5:=F5.binds (ps:=["first","often","column"]) λ _ _ _ _ _ _=>yy (λ _ _ _=>rfl)
 have b6:=F6.binds (ps:=["rows","base"]) λ _ _ _ _ _ _=>pW (λ _ _=>rfl)
 have b7:=F7.binds (ps:=["thing"]) λ _ _ _ _ _ _=>pP (λ _=>rfl)
 have b8:=F8.binds (ps:=["self","row","base"]) λ _ _ _ _ _ _=>yy (λ _ _ _=>rfl)
 have b9:=F9.binds (ps:=["self","figure"]) λ _ _ _ _ _ _=>pW (λ _ _=>rfl)
 have b10:=F10.binds (ps:=["self","figure","place"]) λ _ _ _ _ _ _=>yy (λ _ _ _=>rfl)
 have b11:=F11.binds (ps:=["self"]) λ _ _ _ _ _ _=>pP (λ _=>rfl)
 have b12:=F12.binds (ps:=["self"]) λ _ _ _ _ _ _=>pP (λ _=>rfl)
 have b13:=F13.binds (ps:=["self"]) λ _ _ _ _ _ _=>pP (λ _=>rfl)
 have b14:=F14.binds (ps:=["self"]) λ _ _ _ _ _ _=>pP (λ _=>rfl)
 have b15:=F15.binds (ps:=["self"]) λ _ _ _ _ _ _=>pP (λ _=>rfl)
 have b16:=F16.binds (ps:=["self"]) λ _ _ _ _ _ _=>pP (λ _=>rfl)
 have b17:=F17.binds (ps:=["row","base"]) λ _ _ _ _ _ _=>pW (λ _ _=>rfl)
 have b18:=F18.binds (ps:=["rows","base"]) λ _ _ _ _ _ _=>pW (λ _ _=>rfl)
 have b19:=F19.binds (ps:=["_law_script","_law_k"]) λ _ _ _ _ _ _=>pW (λ _ _=>rfl)
 have b20:=F20.binds (ps:=["_law_tape_here","_law_many_here"]) λ _ _ _ _ _ _=>pW (λ _ _=>rfl)
 have b21:=F21.binds (ps:=["_law_tape_here","_law_k"]) λ _ _ _ _ _ _=>pW (λ _ _=>rfl)
 have b22:=F22.binds (ps:=["_law_tape_here"]) λ _ _ _ _ _ _=>pP (λ _=>rfl)
 have b23:=F23.binds (ps:=["_law_tape_here","_law_many_here","_law_base_here"]) λ _ _ _ _ _ _=>yy (λ _ _ _=>rfl)
 have b24:=F24.binds (ps:=["_law_pairs","_law_base_here"]) λ _ _ _ _ _ _=>pW (λ _ _=>rfl)
 have b25:=F25.binds (ps:=["_law_state_here","_law_figure"]) λ _ _ _ _ _ _=>pW (λ _ _=>rfl)
 have b26:=F26.binds (ps:=["_law_state_here"]) λ _ _ _ _ _ _=>pP (λ _=>rfl)
 have b27:=F27.binds (ps:=["_law_pairs","_law_base_here"]) λ _ _ _ _ _ _=>pW (λ _ _=>rfl)
 have b28:=F28.binds (ps:=["_law_rows_here","_law_column","_law_base_here"]) λ _ _ _ _ _ _=>yy (λ _ _ _=>rfl)
 have b29:=F29.binds (ps:=["_law_rows_here","_law_base_here","_law_columns"]) λ _ _ _ _ _ _=>yy (λ _ _ _=>rfl)
 have F30:=vq (st:=pN) l30 c30 k30
 have b30:=F30.binds (ps:=["_law_script"]) λ _ _ _ _ _ _=>pP (λ _=>rfl)
 have T:Tx K mg ⟨_,_,_,_,_,_,_,_,_,_,_,_,_,_,_,_,_,_,_,_,_,_,_,_,_,_,_,_,_,_,_,_,_,_,_,_,_,_,_,_,_,_,_,_,_,_,_,_,_,_,_,_,_,_,_,_,_,_,_,_,_,_,_⟩:=⟨DY X G a0,F0,b0,DY X G a1,F1,b1,DY X G a2,F2,b2,DY X G a3,F3,b3,DY X G a4,F4,b4,DY X G a5,F5,b5,DY X G a6,F6,b6,DY X G a7,F7,b7,⟨mk_HeapWalk,a8,i8,kc_HeapWalk⟩,F8,b8,⟨a9,i9,F9.kp⟩,F9,b9,⟨a10,i10,F10.kp⟩,F10,b10,⟨a11,i11,F11.kp⟩,F11,b11,⟨a12,i12,F12.kp⟩,F12,b12,⟨a13,i13,F13.kp⟩,F13,b13,⟨a14,i14,F14.kp⟩,F14,b14,⟨a15,i15,F15.kp⟩,F15,b15,⟨a16,i16,F16.kp⟩,F16,b16,DY X G a17,F17,b17,DY X G a18,F18,b18,DY X G a19,F19,b19,DY X G a20,F20,b20,DY X G a21,F21,b21,DY X G a22,F22,b22,DY X G a23,F23,b23,DY X G a24,F24,b24,DY X G a25,F25,b25,DY X G a26,F26,b26,DY X G a27,F27,b27,DY X G a28,F28,b28,DY X G a29,F29,b29,DY X G a30,F30,b30,En X G tU,En X G cy,En X G pU,En X G bR,En X G cA,En X G gZ,En X G vg,En X G c6,En X G vh,En X G g5,En X G nK,En X G dy,En X G tV,DY X G ac_HeapWalk,⟨pg_HeapWalk,hd_HeapWalk,po_HeapWalk,sa_HeapWalk⟩,aA,aH,aJ,aX,aI⟩
 exact ⟨_,λ s v=>.of_eq rfl,λ base _ _=>An T⟩
theorem AH {l:IS} {q:Program} {loose:List Str} {XP:(Str->Option Value)->Heap->Prop} {YP:World->Heap->Prop} {d:DefRec} {K:Params->C7} (hn:l.most=some 63) (hdf:d.params.defaults=[])
  (hY:∀ (w:World) (h:Heap),YP w h->(K w.params).In h)
  (F:∀ (w:World) (mg:Str->Option Value) (fa:Addr) (h:Heap),(K w.params).In h->h.Ns mainGlobals mg->mg d.name=some (.ref fa)->
   ∃ fd:FuncData,(∀ (s:Shared) (u:Value),BindsTo s fd ⟨[u],[]⟩ [("_law_script",u)])/\∀ base:Heap,(K w.params).In base->base.Ns mainGlobals mg->FnOk l.prog w (K w.params) mg base CX0 7 fa fd ["_law_script"] (vf (K w.params))) :
  K0 q loose XP YP l.row.toRowW d [] (λ f vs=>Ky f vs):=
 L2.wZ (n:=63) (k:=7) (x:="_law_script") (CX:=λ _=>CX0) (sp:=λ w=>vf (K w.params)) hn (by decide) hdf ⟨rfl,by decide,by decide,rfl⟩ hY F (λ _ _ a ns hl _ hS=>⟨a,ns,rfl,hS,hl,λ _=>rfl⟩) λ _ _ _ _ _ z=>z
end Fs
open PySem PySem.W PyProof.Rows
set_option maxRecDepth 100000 in
set_option maxHeartbeats 0 in
theorem PySem.Challenge.cw_figuresort_k34_sorted_by_heaps_holds : PySem.Challenge.rw_figuresort_k34_sorted_by_heaps.Holds := by
 w_on; refine holds_law Fs.AM λ said=>?_
 refine holds_open (q:=Fs.vwF) (loose:=Fs.loF) (Xt:=Fs.xtF) (XP:=XL Fs.vwF []) (YP:=Hook.says Fs.oP) Fs.AL (Hook.of Fs.oP) (Hook.keeps Fs.oP) (λ s e=>xl_of s (Jv.mp e).1) XL.keeps (by rfl) (by rfl) (by rfl) (λ s e=>recFacts_of (Jv.mp e).2) (by rfl) said (by decide +kernel) ⟨rfl,rfl,rfl,rfl,rfl,by decide +kernel⟩ ?hw ?hc
 (case hw=>w_witness2)
 delta Fs.oP
 k_fill
 refine Fs.AH (l:=Ei) rfl rfl (λ w h Y=>PySem.W.kIn_of Y) ?F
 case F=>
  intro w mg fa h KX G hmg
  refine' Fs.Ao KX G hmg ?a0 ?F0 ?a1 ?F1 ?a2 ?F2 ?a3 ?F3 ?a4 ?F4 ?a5 ?F5 ?a6 ?F6 ?a7 ?F7 ?a8 ?i8 ?F8 ?a9 ?i9 ?F9 ?a10 ?i10 ?F10 ?a11 ?i11 ?F11 ?a12 ?i12 ?F12 ?a13 ?i13 ?F13 ?a14 ?i14 ?F14 ?a15 ?i15 ?F15 ?a16 ?i16 ?F16 ?a17 ?F17 ?a18 ?F18 ?a19 ?F19 ?a20 ?F20 ?a21 ?F21 ?a22 ?F22 ?a23 ?F23 ?a24 ?F24 ?a25 ?F25 ?a26 ?F26 ?a27 ?F27 ?a28 ?F28 ?a29 ?F29 ?a30 ?l30 ?c30 ?k30 ?tU ?cy ?pU ?bR ?cA ?gZ ?vg ?c6 ?vh ?g5 ?nK ?dy ?tV ?ac_HeapWalk ?pg_HeapWalk ?hd_HeapWalk ?po_HeapWalk ?sa_HeapWalk ?mk_HeapWalk ?kc_HeapWalk ?aA ?aH ?aJ ?aX ?aI
  iterate 2 all_goals (first | k_is | exact L2.vq (by k_is) (by k_is) (by k_is) | skip)
