import PyProof.Rows.All
import Wide.All
import OpenK.AllK
import Wide.FinOn
import Lean
import PyProof.EqAt
import PyProof.EqKinds
import PyProof.TupleCall
import PySem.Challenge.RW_figuresort_k68_whole_kinds_by_one_anothe
set_option compiler.extract_closed false
local macro_rules
 | `(tactic|lia)=>`(tactic|first | lia (config:={}) | omega)
local macro_rules
 | `(⋯)=>`(by lia)
open List renaming getElem?_eq_getElem→Gz,length_map→GA,getD_eq_getElem?_getD→GB,getElem?_map→GE,mem_append_right→GG,range→GH,take_of_length_le→GJ,map_append→GM,size_toArray→GO,getElem?_eq_some_iff→GQ,take_add_one→GS,getElem_mem→GU,mem_cons→GW,mem_map→GX,replicate→GY,length_append→GZ,mem_singleton→G1,Nodup→G4,length_take→G5,getElem?_append_left→G6,mem_append→G9,mem_of_getElem?→Hc,getElem?_append_right→He,map_cons→Hg,length_cons→Hh,mem_range→Hj,toArray→Hk,mem_cons_self→Hl,mem_cons_of_mem→Hn,pairwise_iff_getElem→Hq,drop_zero→Ht,getElem?_range→Hu,map_map→Hv,not_mem_nil→Hy,length_range→HH,mem_append_left→HL,replicate_succ→HM,map_congr_left→HN,set→HV,length_singleton→HX,append_assoc→HY,length_eq_zero_iff→Ib,append_nil→Ic,length_nil→Ie,length_drop→Ig,pairwise_singleton→Iv,nodup_cons→Iw,length_pos_iff→Iy,sum_cons→IB,zip_cons_cons→IC,count_eq_zero→ID,sum_append→IH,pairwise_append→II,count_append→IK,length_reverse→IN,getElem_of_mem→IP,length_replicate→IY,find?_cons→I0,range'→Je,lookup_cons→Jk,all_eq_true→Jl,mem_reverse→Jn,flatten_replicate_singleton→Jo,getElem?_replicate→Js,pairwise_cons→Jx,length→Jz,flatten_cons→JB,getElem?_eq_none→JH,take_append_drop→JI,mem_iff_getElem→JN,getElem?_of_mem→JO,map_eq_nil_iff→JS,mem_filter→JT,getElem?_take_of_lt→JW,map_replicate→Ka,drop_drop→Ke,getElem?_set→Kl,pairwise_map→Km,all_cons→Kq,map_take→Kr,ext_getElem→Kw,pairwise_iff_forall_sublist→KA,getElem?_reverse→KC,eq_nil_or_concat→KD,map_nil→KI,nil_append→KL,mem_of_mem_take→KO,filterMap_cons→KU,take_succ_cons→KW,zip_nil_right→K9,nodup_iff_pairwise_ne→Ln,map_drop→Lp,zip_nil_left→Lu,drop_eq_getElem_cons→Lz,count_singleton_self→LC,map_reverse→LK,countP_cons→LQ,length_erase_of_mem→LR,getElem_map→LS,cons_append→LV,getElem?_cons_succ→Mg,of_mem_zip→Mj,length_set→Mk,getElem?_set_self→Mq,pairwise_lt_range→Mv,drop_of_length_le→Mw,range_succ_eq_map→Mz,length_filter_le→MD,concat_eq_append→MF,nodup_nil→MI,drop_left→MJ,take_left→MK,cons_lt_cons_iff→ML,take_zero→MN,getElem?_set_ne→MO,mem_erase_of_ne→MS,range'_append_1→MT,range_eq_range'→MU,any_cons→MY,countP_eq_zero→M3,drop_succ_cons→M8,mem_filterMap→M9,getElem_range→Nd,filter_append→Nf,getElem?_drop→Nh,take_sublist→No,reverse_cons→Np,mapM_toArray→Nr,nodup_append→Nv,nodup_range→NI,take_length→NJ,foldl→NN,foldl_cons→NO,forIn_nil→N5,map_set→OT,map→OW,count→Pi
open PySem.W renaming Frag→GC,nsIn→GN,mg_of→GP,mg_none_of→Hs,kia_one→Ik,kia_tup→Io,keepIn→Jf,kitOne→JC,fnOf→JD,kitx_list→Kj,codeHdIn→Kz,codeIn→K5,kitx_tuple→K8,methodObj→Lr,kitx_none→Ls,kitx_int→LF,instObj→Mi,OpenLaw→Mn,cellsFrom_some→Ms,lookIn→MC,callWith_K→Na,kitx_bool→Nm,kitx_dict→Nn,plainGet→ND,kitx_str→NE,topFrom→NL,findIn→N1,kitAny→N4,WalkO→Od
open PySem.Heap renaming get?_push_of_some→GD,lt_size→GK,get?_push_size→GT,get?_update_other→Il,size_push→IR,SameBut→IU,get?_update_self→IZ,size_update→JP,get?_push_ne→Kn
open Nat renaming le_refl→GF,zero_le→GR,ne_of_lt→GV,lt_of_lt_of_le→G0,ne_of_gt→Ho,lt_irrefl→Hw,lt_of_le_of_lt→HI,le_trans→HJ,le_of_lt→HK,le_of_eq→HR,lt_trichotomy→Ij,lt_or_ge→Iz,lt_succ_of_lt→IJ,le_add_right→IQ,gcd→Jg,min_eq_left→Jw,pow_succ→JF,lcm→JG,lt_trans→JZ,eq_zero_or_pos→J8,pow_pos→Ko,not_lt_of_le→Kv,mod_eq_of_lt→Kx,mod_lt→KS,mul_le_mul_left→KY,add_sub_cancel→Ld,le_of_dvd→Lm,add_assoc→Lo,gcd_dvd_right→Lw,lt_succ_self→LL,succ_ne_self→LM,sub_zero→LP,zero_add→LU,succ_le_succ→LX,sub_self→LY,mul_div_cancel_left→Mc,pos_of_mul_pos_left→Md,gcd_pos_of_pos_left→Mh,not_lt_zero→Mo,div_div_eq_div_mul→Mu,pow_le_pow_right→MV,pow_le_pow_left→M1,lt_or_gt_of_ne→Ng,eq_or_lt_of_le→Ni,gcd_zero_right→Nl,le_succ_of_le→Nq,mul_add→NB,mul_one→NC,gcd_dvd_left→NH,log2_le_self→NK,div_pos_iff→NR,dvd_trans→Ob,succ_mul→OO,add_comm→OP,mul_comm→OQ,gcd_comm→OS,add_zero→OU,log2_lt→O7,le_succ→O9,one_mul→Pb,mod_mul→Pe,not_lt→Pn
open Or renaming inl→GI,inr→Iu
open True renaming intro→GL
open Bool renaming false_ne_true→G3,false_eq_true→Hm,and_eq_true→Iq,false_or→Jv,not_true→JQ,eq_iff_iff→KH,true_or→KM,or_true→LJ,or_eq_true→Mm,and_eq_true_iff→MW,and_false→N3,or_false→Oa
open PySem.Challenge renaming pw_figuresort_k68_whole_kinds_by_one_anothe→G7,rw_figuresort_k68_whole_kinds_by_one_anothe→Hr
open Option.some renaming inj→G8,injEq→Lv
open PySem.PassesOwn renaming never→Ha
open PySem.Value renaming ref→Hb,none→Hf,type→Im,isStrOf→IL,bool→Jc,int→JK,str→K7,isInt→Mp,notImplemented→MQ,float→O3
open PySem.Obj renaming mapSeq→Hd,putSet→Pl
open PySem.Str renaming ofString→Hi,length→Lx
open Ne renaming symm→Hx
open PyProof.Rows renaming callWith_type1→Hz,slot_tuple_getitem→HZ,callWith_builtin1→NM,lt_int→Po,le_int→Pp
open Int renaming toNat_natCast→HQ,natCast_ediv→IS,mul_lt_mul_of_pos_right→IX,natCast_mul→Ja,lt_of_mul_lt_mul_right→Jb,toNat_of_nonneg→Jr,le_of_lt→KN,fdiv_eq_ediv_of_nonneg→Lj,natCast_emod→LZ,eq_ofNat_of_zero_le→L1,natCast_pos→Ml,mul_pos→MA,natAbs_natCast→Nc,emod_lt_of_pos→Nk,mul_left_comm→Nu,mul_one→Nz,natCast_add→NS,emod_nonneg→N0,mul_nonneg→N7,mul_assoc→Oe,ediv_one→ON,le_trans→OR,mul_comm→OY,zero_add→O0,lt_or_le→O1,le_refl→Pd
open PySem.Around renaming under_plainId→HS
open Option renaming map_eq_some_iff→HU,isSome_iff_exists→Ip,map_some→KG,getD_none→LI,toList→MX,none→O6
open PySem.Builtin.Range renaming rangeSize→Ia,small→Jp,rangeFitsLong→JL
open PySem.F renaming slot_dict_itemiterator_next→Ih,plain_max_loop→IA,plain_extend_loop→IF,plainAttrs_list→Jt,plain_list_iadd→Ju,slot_list_getattribute→Jy,args_dict_itemiterator_next_1→JV,entry_dict_itemiterator_next→J9,slot_tuple_lt→KB,slot_dict_get→KE,slot_dict_items_iter→K6,entry_proto_collect→Le,plain_proto_collect→Lf,entry_extend_loop→LA,slot_list_extend→LN,type_list_extend→LO,args_tuple_lt_2→L0,args_dict_get_3→L8,plainAttrs_dict→Ma,entry_list_iadd→Mb,slot_dict_items→Me,entry_tuple_lt→Mt,entry_dict_get→Mx,entry_max_loop→My,args_list_extend_2→MR,entry_list_extend→M0,slot_list_extend→Nb,slot_int_rmul→NP
open Array renaming length_toList→Ii,getD_eq_getD_getElem?→IW,getElem?_toList→JE,getD→KQ,perm_iff_toList_perm→Lq,mem_toList_iff→MP,forIn_toList→Nj,size_push→NX,toList→OA
open PySem.Builtin.List renaming listTooLong→Ir,listSameRef→Jj,listExtendWith→JM,listSubscript?→Lb,listAllItems→Ly,listItems→O5
open PySem.PyData renaming keyHash→IE,strOk→LW,canLayAll0→Nt,depthAll→NU,canLay0→N6
open False renaming elim→IG
open PySem renaming mem_of_lookup→IM,strKind→Ks,evalArgs_none→MZ,call→NQ,Within→Oz,Str→Ps,Fin→Pz
open PySem.Calls renaming callWith_builtin→IT,spliced_cons→IV,spliced_nil→JA,evalArgs_plain→KJ,Name_function_global→Li
open PySem.Builtin.Slice renaming slicePlaces→Jd,sliceAdjust→JU,sliceApplied→Lk,slicePartIndex→N2,sliceFields→Ov
open List.Perm renaming refl→Jh,append_left→ME,trans→NT,append_right→Pa,cons→PL
open PySem.Builtin.Tuple renaming tupleExact→Ji,tupleCompareSizes→KF,tupleItemsOf→Ll
open List.Pairwise renaming imp_of_mem→Jm,nil→Kk
open PySem.Heap.SameBut renaming update→Jq,refl→PD
open PySem.Builtin.Dict_items renaming ownsTuple→JJ,ownedTupleIsFree→Kg,ownedTupleFields→Kh,pairFromOwner→Ky,newIterator→NY,dictOf→Ox
open Sum renaming inr→JR,inl→KZ
open PySem.AutoSeq1 renaming sub_tuple_tuple→JX,wpAny_loadPart'→KP,list_extend_list_list_0→NF
open PyProof renaming noPylong_of_log2→JY
open PySem.W.Fast renaming te14082659384304107361→Kb,te14364793385576792824→Kc
open PySem.SetTable renaming Probe→Ki,leap→Kt,bits→Ku,runEnd→NZ
open PyProof.Rows.SortSt renaming mk'→KR
open PySem.Heap.IsSliceOf renaming new→La
open PySem.W.KFB renaming if_not→Lc,if_so→PC
open PySem.Builtin.Builtins renaming bindParams→Lg
open PySem.Paired renaming length→Lh,snoc→Pc
open PySem.Builtin.Dict renaming updateFrom→Mf,pairItems→MB,showsAll→MM,selfAndRest→OZ,noArgs→Pq
open PySem.IsRange renaming new→Mr
open PySem.Data renaming fields→Nw,cell→N9,seq→OV
open PySem.Walks renaming range→Ny,tuple→O8,list→Pk
open PySem.AutoListH renaming list___mul___list_int_3→NA
open PySem.IsL renaming isList→NG,update→PH
open StateT renaming run_pure→NW
open PyProof.Rows.IsTup renaming new→N8
open PySem.CmpOf renaming ints_gt→Oc
open PySem.Shared renaming TypeIs→Of
open Function renaming comp→Og
open Int.ofNat renaming inj→Oh
open PySem.EqNone renaming eq_none_none→Oi,eq_none_bool→Oj,eq_bool_none→Ol,ne_none_none→Oo,ne_none_bool→Oq,ne_bool_none→Os,eq_none_int→OB,eq_none_str→OC,eq_int_none→OD,eq_str_none→OF,ne_none_int→OH,ne_none_str→OI,ne_int_none→OJ,ne_str_none→OL
open PySem.EqMixed renaming eq_bool_str→Om,eq_str_bool→On,ne_bool_str→Ot,ne_str_bool→Ou,eq_int_str→OE,eq_str_int→OG,ne_int_str→OK,ne_str_int→OM
open Classical renaming byContradiction→Ow
open PySem.W.OpenLaw renaming wellSaid→Oy
open PySem.SeqAt renaming rcNeAt_reads→OX,eqv_refl→Pj
open Sum.inl renaming inj→O2
open PySem.MeetsSeq renaming list_pop_last→O4
open List.Sublist renaming count_le→Pf
open PySem.W.RowW renaming records→Pg
open PySem.Draws renaming list→Ph
open PySem.SeqAt.EqAt renaming int_str→Pu,str_int→Pw,int_int→Py
open PySem.Flow renaming next→Px
open Lean.Name renaming mkSimple→PB
open PySem.DictEntry renaming refKey→PF
open Array.Perm renaming refl→PJ
open PySem.Heap.DictOf renaming new→PK
open PySem.NameKind renaming cell→PM
open List.Mem renaming head→PN
open PySem renaming wpAny_bind→P2,wpAny_pure→P3,sizeLine→P4,wpAny_newObj_type→P5,wpAny_holding→P7,wpAny_mono→P8,foldedSetIterable→Qa,sizeLine_eq→Qb,compareOp→Qc,codeAny_builtin→Qd,plainId_quiet→Qe,binaryOp→Qf,wpAny_call_entry→Qg,wpAny_typeNameOfWhole_itemiter→Qh,wpAny_comprehension_free→Qi,wpAny_field→Qj,wpAny_callSpecial?_slot→Qk,wpAny_list_append_plain→Ql,wpAny_loadPart'→Qm,assignEach→Qn,holding→Qo,rawInt→Qp,codeAny_compStart_list→Qq,wpAny_standAt→Qr,DictEntry→Qs,sysModules→Qt,wpAny_Call_Name_kw→Qu,wpAny_setField_rec→Qv,wpAny_typeNameOf_itemiter→Qw,wpAny_passesOwn→Qx,wpAny_updateSeq→Qy,wpAny_newFunctionEnv→Qz,sliceBounds→QD,wpAny_typeOf→QF,wpAny_truthy_bool→QK,swapsWith→QL,codeAny_mono→QM,swapsWithSole→QN,swappedStores→QP,behindInMarks→QQ,intItems→QR,call_meets→QU,wpAny_letGo→QX
open PyProof.Rows renaming IntsAre→P9,get?_update_seq→QH,listUpdate_at→QJ,size_push'→QV
set_option Elab.async false
set_option maxRecDepth 100000
set_option maxHeartbeats 0
namespace Fs
open PySem PySem.Spec PyProof.Rows
local macro_rules
 | `(tactic| o_head $_)=>`(tactic| assumption)
open PySem PySem.W PyProof.Rows in
theorem Kf(h:Hr.row.Holds):Hr.row.Holds:=by
 w_on;k_head
open PySem PySem.W PyProof.Rows in
def asF:List Addr:=[2,3,15,22,23,24,25,28,35,36,37,40,47,48,49,52,54,55,57,58,59,61,62,64,65,66,68,69,71,72,73,75,76,78,79,80,83,84,85,88,89,90,93,94,95,98,99,100,102,103,105,106,107,109,110,112,113,114,116,117,119,120,121,123,124,126,127,128,131,132,133,135,136,138,139,140,142,143,145,146,147,149,150,152,153,154,156,157,159,160,161,164,165,166,168,169,171,172,173,176,177,178,180,181,183,184,185,188,189,190,193,194,195,197,198,200,201,202,204,205,207,208,209,212,213,214,217,218,219,221,222,224,225,226,228,229,231,232,233,236,237,238,240,241,243,244,245,248,249,250,252,253,255,256,257,259,260,262,263,264,267,268,269,271,272,274,275,276,279,280,281,284,285,286,289,290,291,292,293,294,296,297,299,300,301,304,305,306,308,309,311,312,313,315,316,318,319,320,322,323,325,326,327,329,330,332,333,334,336,337,339,340,341,343,344,346,347,348,350,351,353,354,355,358,359,360,362,363,365,366,367,369,370,372,373,374,377,378,379,382,383]
open PySem PySem.W PyProof.Rows in
@[reducible] noncomputable def mT:Hook:=kmHook Kf.heap_1 asF (λ_=>by kernel_rfl) [134]
def FH(i:Nat):Stmt:=G7.main.body.getD i (.Pass ⟨0,0,0,0⟩)
def vwF:Program:={ G7 with main:={ G7.main with body:=[1,2,3,5,6,8,9,10,11,12,13,14,15,17,18,19,20,21,23,24,25,26,27,28,29,31,32,33,34,36,37,39,40,41,42,43,44,46,47,48,49,50,51,52,53,54,55,56,58,59,60,61,62,63,64,65,66,67,68,69].map FH } }
def loF:List Ps:=["AHEAD","DONE"]
def xtF(s:Shared):Bool:=PySem.W.xlAt vwF [] s && PySem.W.recOk (Pg Hr.row.toRowW) s
open PySem.W in
theorem Dt{p q:Program}{loose:List Ps}{Xt:Shared->Bool}{α:Type}{Yf:Shared->α}{Ya:World->α}{N:Nat}{g0:Bool}(row:String)
  (h:∀(b:Bool) (w:World),(fencedOpening treeTable p w N).map (λs₀=>(topFrom treeTable p (w.withFollow row b) N s₀).map (λs=>(openSeen q loose (importedModules p.main.body) Xt g0 s,Yf s)))=some (some (openGood q loose,Ya (w.withFollow row b)))):LeftO p q loose Xt Yf Ya N g0:=by
 refine LeftO.of_split row λw=>?_
 obtain⟨s,a,b⟩:=HU.mp (h false w);obtain⟨s',a',b'⟩:=HU.mp (h true w);rw[a]at a';cases a';rw[a,KG,b,b']
open PySem.W in
def Db (b:Bool) (w:World):Prop:=(fencedOpening treeTable G7 w 4942).map (λs₀=>(topFrom treeTable G7 (w.withFollow "special-get-raises" b) 4942 s₀).map (λs=>(openSeen vwF loF (importedModules G7.main.body) xtF true s,Hook.obs mT s)))=some (some (openGood vwF loF,Hook.val mT (w.withFollow "special-get-raises" b)))
theorem Du(w:World):Db false w:=by unfold Db NL;rw[Kb,Kc];kernel_rfl
theorem Dv(w:World):Db true w:=by unfold Db NL;rw[Kb,Kc];kernel_rfl
open PySem.W in
theorem Dw:LeftO G7 vwF loF xtF (Hook.obs mT) (Hook.val mT) 4942:=Dt "special-get-raises" λb w=>by cases b;exact Du w;exact Dv w
theorem Dx:Oy Hr=true:=by kernel_rfl
end Fs
set_option compiler.extract_closed false
set_option Elab.async false
set_option linter.all false
set_option maxRecDepth 100000
namespace L2
open PySem PySem.Spec PyProof.Rows
noncomputable abbrev Key:=Sum Int Str
noncomputable def qT:Key->Value->Bool
 | .inl k,v=>Mp k v
 | .inr x,v=>IL x v
noncomputable def FI(w:World):Key->Int
 | .inl k=>hashInt k
 | .inr x=>hashStr w x
theorem br:∀{k:Key}{v:Value},qT k v=true->(∃i t,k=KZ i/\v=JK i t)\/(∃x t,k=JR x/\v=K7 x t)
 | .inl i,v,h=>by
  obtain⟨t,e⟩:=Value.isInt_shape (k:=i) (v:=v) h;exact .inl ⟨i,t,rfl,e⟩
 | .inr x,v,h=>by
  obtain⟨t,e⟩:=Value.isStrOf_shape (x:=x) (v:=v) h;exact .inr ⟨x,t,rfl,e⟩
theorem sh(i:Int)(t:Tok):qT (.inl i) (.int i t)=true:=by simp[qT,Mp]
theorem si(x:Str)(t:Tok):qT (.inr x) (.str x t)=true:=by simp[qT,IL]
theorem A6(a b:Int):decide ((KZ a:Key)=KZ b)=(a == b):=by
 by_cases e:a=b
 ·subst e;simp
 ·have h:¬(KZ a:Key)=KZ b:=λq=>e (O2 q)
  rw[decide_eq_false h];exact(beq_eq_false_iff_ne.mpr e).symm
theorem A7(a b:Str):decide ((JR a:Key)=JR b)=decide (a=b):=by
 by_cases e:a=b
 ·subst e;simp
 ·have h:¬(JR a:Key)=JR b:=λq=>e (Sum.inr.inj q)
  rw[decide_eq_false h,decide_eq_false e]
theorem A8(a:Int)(b:Str):decide ((KZ a:Key)=JR b)=false:=decide_eq_false (λq=>nomatch q)
theorem A9(a:Str)(b:Int):decide ((JR a:Key)=KZ b)=false:=decide_eq_false (λq=>nomatch q)
noncomputable def aO(prog:Program)(w:World):PySem.KeyKind prog w Key where
 is:=qT
 hash:=FI w
 inj:=λv a b ha hb=>by
  rcases br ha with⟨i,t,rfl,rfl⟩|⟨x,t,rfl,rfl⟩
  ·rcases br hb with⟨j,u,rfl,e⟩|⟨y,u,rfl,e⟩
   ·injection e with e1 _;rw[e1]
   ·exact nomatch e
  ·rcases br hb with⟨j,u,rfl,e⟩|⟨y,u,rfl,e⟩
   ·exact nomatch e
   ·injection e with e1 _;rw[e1]
 byValue:=λk v h=>by
  rcases br h with⟨i,t,rfl,rfl⟩|⟨x,t,rfl,rfl⟩<;>rfl
 pyHash:=λhv h=>by
  rcases br hv with⟨i,t,rfl,rfl⟩|⟨x,t,rfl,rfl⟩
  ·exact wpAny_pyHash_int h
  ·exact wpAny_pyHash_str h
 eqBool:=λhu hv h=>by
  rcases br hu with⟨i,t,rfl,rfl⟩|⟨x,t,rfl,rfl⟩
  ·rcases br hv with⟨j,u,rfl,rfl⟩|⟨y,u,rfl,rfl⟩
   ·rw[A6]at h;exact wpAny_eqBool_int h
   ·rw[A8]at h;exact Pu i t y u _ _ _ _ h
  ·rcases br hv with⟨j,u,rfl,rfl⟩|⟨y,u,rfl,rfl⟩
   ·rw[A9]at h;exact Pw x t j u _ _ _ _ h
   ·rw[A7]at h;exact wpAny_eqBool_str h
 «strs»:=λk x t v h=>by
  rcases br h with⟨i,u,rfl,e⟩|⟨y,u,rfl,e⟩
  ·exact nomatch e
  ·injection e with e1 _
   subst e1;cases v<;>rfl
theorem oy(prog:Program)(w:World)(i:Int)(t:Tok):(aO prog w).is (.inl i) (.int i t)=true:=sh i t
theorem oz(prog:Program)(w:World)(x:Str)(t:Tok):(aO prog w).is (.inr x) (.str x t)=true:=si x t
inductive V where
 | non|bl (b:Bool)|int (i:Int)|str (x:Str)|byt (b:Array UInt8)|flt (b:UInt64)|ref (a:Addr)|ty (n:String)
 deriving DecidableEq
noncomputable def RelV:V->Value->Prop
 | .non,u=>u=Hf
 | .bl b,u=>u=Jc b
 | .int i,u=>∃t,u=JK i t
 | .str x,u=>∃t,u=K7 x t
 | .byt b,u=>∃t,u=Value.bytes b t
 | .flt b,u=>∃t,u=O3 b t
 | .ref a,u=>u=Hb a
 | .ty n,u=>u=Im n
abbrev Vals:List V->List Value->Prop:=Paired RelV
theorem Vals.length{xs:List V}{us:List Value}(r:Vals xs us):xs.length=us.length:=Lh r
theorem Vals.get:∀{xs:List V}{us:List Value}{i:Nat}{x:V},Vals xs us->xs[i]? = some x->∃u,us[i]? = some u/\RelV x u
 | _,_,_,_,.nil,e=>by simp at e
 | _,_,0,_,.cons r _,e=>by simp at e;subst e;exact⟨_,rfl,r⟩
 | _,_,i+1,x,.cons _ t,e=>by
  obtain⟨u,h1,h2⟩:=Vals.get (i:=i) (x:=x) t (by simpa using e);exact⟨u,by simpa using h1,h2⟩
theorem Vals.set{x:V}{u:Value}(r:RelV x u):∀{xs:List V}{us:List Value}(i:Nat),Vals xs us->Vals (xs.set i x) (us.set i u)
 | _,_,_,.nil=>.nil
 | _,_,0,.cons _ t=>.cons r t
 | _,_,i+1,.cons q t=>.cons q (Vals.set r i t)
theorem Vals.append:∀{xs ys:List V}{us ws:List Value},Vals xs us->Vals ys ws->Vals (xs++ys) (us++ws)
 | _,_,_,_,.nil,s=>s
 | _,_,_,_,.cons r t,s=>.cons r (Vals.append t s)
theorem Vals.take:∀{xs:List V}{us:List Value}(n:Nat),Vals xs us->Vals (xs.take n) (us.take n)
 | _,_,0,_=>.nil
 | _,_,_+1,.nil=>.nil
 | _,_,n+1,.cons r t=>.cons r (Vals.take n t)
theorem Vals.drop:∀{xs:List V}{us:List Value}(n:Nat),Vals xs us->Vals (xs.drop n) (us.drop n)
 | _,_,0,r=>r
 | _,_,_+1,.nil=>.nil
 | _,_,n+1,.cons _ t=>Vals.drop n t
noncomputable def RelO:Option V->Option Value->Prop
 | some v,some u=>RelV v u
 | none,none=>True
 | _,_=>False
def KV{κ:Type}:List (κ×V)->List (κ×Value)->Prop:=Paired λ(p:κ×V) (q:κ×Value)=>p.1=q.1/\RelV p.2 q.2
noncomputable def kV:Key->V
 | .inl i=>.int i
 | .inr x=>.str x
inductive HO where
 /-- a list -/
 | lst (xs:List V)
 /-- a tuple (never changes) -/
 | tup (xs:List V)
 /-- a dict whose keys are ints and texts;one whose keys are tuples of ints and texts (the empty one is both) -/
 | dK (kvs:List (Key×V))|dT (kvs:List (List Key×V))
 /-- a set of ints: its members,its size -/
 | set (S:Int->Bool) (n:Nat)
 /-- an instance of the class at C,its dict at dx,its attributes -/
 | ins (C dx:Addr) (fs:List (Str×V))
 /-- the dict of the instance at x -/
 | own (x:Addr)
 /-- the dict of an exception -/
 | xd (fs:List (Str×V))
 /-- a bound method,f of x -/
 | met (f x:Addr)
 /-- a range object lo,lo+1,.. below hi -/
 | rng (lo hi:Int)
 /-- a thing that is known to the object (the script;a dict while a loop walks it): read,never written while it is so -/
 | frz (o:Obj) (u:HO)
 /-- a code object's table -/
 | tbl (ps:Array Value)
 /-- any other thing,by what is true of its one object (a def of one's own: SetO a S n:=HO.ext λh=>..) -/
 | ext (φ:Heap->Prop)
noncomputable abbrev Hp:=Addr->Option HO
noncomputable def upd(H:Hp)(a:Addr)(o:HO):Hp:=λb=>if b=a then some o else H b
theorem aa{H:Hp}{a:Addr}{o:HO}:upd H a o a=some o:=by unfold upd;rw[if_pos rfl]
theorem ai{H:Hp}{a b:Addr}{o:HO}(h:b≠a):upd H a o b=H b:=by unfold upd;rw[if_neg h]
theorem dU{H:Hp}{a b:Addr}{o u:HO}(h:H a=some o)(h':H b=some u)(d:o≠u):a≠b:=by
 intro e;subst e;rw[h]at h';exact d (G8 h')
theorem ae{H:Hp}{a b:Addr}{o:HO}(h:H a=some o)(h':H b=none):a≠b:=by
 intro e;subst e;rw[h]at h';cases h'
section
variable(P:Program)(w:World)
noncomputable def ObjOk(H:Hp)(h:Heap)(a:Addr):HO->Prop
 | .lst xs=>xs.length<=P4/\∃(its:List Value) (n:Nat),Vals xs its/\h.get? a=some { cls:=.type "list",data:=.seq its.toArray n }
 | .tup xs=>xs.length<=P4/\∃its:List Value,Vals xs its/\IsTup h a its.toArray
 | .dK kvs=>kvs.length<=P4/\(a == Qt)=false/\∃vs,KV kvs vs/\h.DictOf (aO P w) a vs
 | .dT kvs=>kvs.length<=P4/\(a == Qt)=false/\∃xs:List (List Key×Addr×Value),
   Paired (λ(p:List Key×V) (q:List Key×Addr×Value)=>p.1=q.1/\H q.2.1=some (.tup (p.1.map kV))/\RelV p.2 q.2.2) kvs xs/\
   ∃o es ep,h.get? a=some o/\o.ExactDict/\o.data=.dict es ep/\es.toList=xs.map (entryOfKey (tupleKind (aO P w)))/\(xs.map (·.1)).Nodup
 | .set S n=>h.SetOf (intKind P w) a S n
 | .ins C dx fs=>H dx=some (.own a)/\fs.length<=1000/\dx≠a/\h.get? a=some (Mi C dx)/\
   ∃mA,h.Ns1 dx mA/\(∀f,RelO (fs.lookup f) (mA f))/\Oz mA (fs.map (·.1))
 | .own _=>∃o,h.get? a=some o
 | .xd fs=>∃mA,h.Ns1 a mA/\∀f,RelO (fs.lookup f) (mA f)
 | .rng lo hi=>∃t u v,h.get? a=some { cls:=.type "range",data:=.fields #[.int lo t,.int hi u,.int 1 v] }
 | .frz o u=>h.get? a=some o/\ObjOk H h a u
 | .tbl ps=>h.get? a=some { cls:=.none,data:=.fields ps }
 | .met f x=>h.get? a=some (Lr (.ref f) (.ref x))
 | .ext φ=>φ h/\(∃o,h.get? a=some o)/\∀h1 h2:Heap,φ h1->(∀o,h1.get? a=some o->h2.get? a=some o)->φ h2
def HOk(H:Hp)(h:Heap):Prop:=∀a o,H a=some o->ObjOk P w H h a o
end
section
variable{P:Program}{w:World}{H H':Hp}{h h':Heap}{a:Addr}{o:HO}
theorem ObjOk.lt(x:ObjOk P w H h a o):a<h.objs.size:=by
 cases o with
 | lst xs=>obtain⟨_,_,_,_,e⟩:=x;exact GK e
 | tup xs=>obtain⟨_,_,_,p⟩:=x;exact p.lt
 | dK kvs=>obtain⟨_,_,_,_,o,_,_,e,_⟩:=x;exact GK e
 | dT kvs=>obtain⟨_,_,_,_,o,_,_,e,_⟩:=x;exact GK e
 | set S n=>obtain⟨o,_,_,_,e,_⟩:=x;exact GK e
 | ins C dx fs=>obtain⟨_,_,_,e,_⟩:=x;exact GK e
 | own y=>obtain⟨_,e⟩:=x;exact GK e
 | xd fs=>obtain⟨_,⟨_,_,_,e,_⟩,_⟩:=x;exact GK e
 | rng lo hi=>obtain⟨_,_,_,e⟩:=x;exact GK e
 | frz ob u=>obtain⟨e,_⟩:=x;exact GK e
 | tbl ps=>exact GK (show h.get? a=some _ from x)
 | met f y=>exact GK (show h.get? a=some _ from x)
 | ext φ=>obtain⟨_,⟨_,e⟩,_⟩:=x;exact GK e
theorem Paired.mapP{α β:Type}{F G:α->β->Prop}:∀{l₁:List α}{l₂:List β},Paired F l₁ l₂->(∀a b,F a b->G a b)->Paired G l₁ l₂
 | _,_,.nil,_=>.nil
 | _,_,.cons r t,f=>.cons (f _ _ r) (Paired.mapP t f)
theorem ObjOk.stay(x:ObjOk P w H h a o)(k:∀b u,(b=a\/H b=some (.own a))->h.get? b=some u->h'.get? b=some u)
  (ho:∀b,H b=some (.own a)->H' b=some (.own a)) (ht:∀b xs,H b=some (.tup xs)->H' b=some (.tup xs)):ObjOk P w H' h' a o:=by
 induction o with
 | lst xs=>obtain⟨z,its,n,r,e⟩:=x;exact⟨z,its,n,r,k _ _ (.inl rfl) e⟩
 | tup xs=>obtain⟨z,its,r,ob,e,c⟩:=x;exact⟨z,its,r,ob,k _ _ (.inl rfl) e,c⟩
 | dK kvs=>obtain⟨z,y,vs,r,ob,es,ep,e,c⟩:=x;exact⟨z,y,vs,r,ob,es,ep,k _ _ (.inl rfl) e,c⟩
 | dT kvs=>
  obtain⟨z,y,xs,r,ob,es,ep,e,c⟩:=x;exact⟨z,y,xs,Paired.mapP r λp q z=>⟨z.1,ht _ _ z.2.1,z.2.2⟩,ob,es,ep,k _ _ (.inl rfl) e,c⟩
 | set S n=>obtain⟨ob,es,ep,t,e,c⟩:=x;exact⟨ob,es,ep,t,k _ _ (.inl rfl) e,c⟩
 | ins C dx fs=>
  obtain⟨d,z,ne,e,mA,⟨od,es,ep,e2,c⟩,r⟩:=x;exact⟨ho _ d,z,ne,k _ _ (.inl rfl) e,mA,⟨od,es,ep,k _ _ (.inr d) e2,c⟩,r⟩
 | own y=>obtain⟨ob,e⟩:=x;exact⟨ob,k _ _ (.inl rfl) e⟩
 | xd fs=>obtain⟨mA,⟨od,es,ep,e,c⟩,r⟩:=x;exact⟨mA,⟨od,es,ep,k _ _ (.inl rfl) e,c⟩,r⟩
 | rng lo hi=>obtain⟨t,u,v,e⟩:=x;exact⟨t,u,v,k _ _ (.inl rfl) e⟩
 | frz ob u ih=>obtain⟨e,q⟩:=x;exact⟨k _ _ (.inl rfl) e,ih q⟩
 | tbl ps=>
  have e:h.get? a=some { cls:=.none,data:=.fields ps }:=x;show h'.get? a=some { cls:=.none,data:=.fields ps }
  exact k a _ (.inl rfl) e
 | met f y=>
  have e:h.get? a=some (Lr (.ref f) (.ref y)):=x;show h'.get? a=some (Lr (.ref f) (.ref y))
  exact k a _ (.inl rfl) e
 | ext φ=>obtain⟨p,⟨o,e⟩,st⟩:=x;exact⟨st _ _ p λo q=>k _ _ (.inl rfl) q,⟨o,k _ _ (.inl rfl) e⟩,st⟩
theorem HOk.lt(x:HOk P w H h)(e:H a=some o):a<h.objs.size:=(x a o e).lt
theorem HOk.fresh(x:HOk P w H h)(e:h.objs.size<=a):H a=none:=by
 cases q:H a with
 | none=>rfl
 | some u=>exact absurd (G0 (x.lt q) e) (Hw _)
theorem HOk.kept(x:HOk P w H h)(k:∀b u,h.get? b=some u->h'.get? b=some u):HOk P w H h':=λa o e=>
 (x a o e).stay (λb u _ q=>k b u q) (λ_ q=>q) λ_ _ q=>q
theorem HOk.laid(x:HOk P w H h)(k:∀b u,h.get? b=some u->h'.get? b=some u)(hp:h.objs.size<=a)(new:ObjOk P w (upd H a o) h' a o):HOk P w (upd H a o) h':=λb u e=>by
 have hn:=x.fresh hp;by_cases hb:b=a
 ·subst hb;rw[aa]at e;cases e;exact new
 ·rw[ai hb]at e
  exact(x b u e).stay (λc v _ q=>k c v q) (λc q=>by rw[ai (ae q hn)];exact q) λc xs q=>by rw[ai (ae q hn)];exact q
end
def Rd(H:Hp)(a:Addr)(u:HO):Prop:=H a=some u\/∃o,H a=some (.frz o u)
theorem Rd.ok{P:Program}{w:World}{H:Hp}{h:Heap}{a:Addr}{u:HO}(r:Rd H a u)(x:HOk P w H h):ObjOk P w H h a u:=by
 rcases r with r|⟨o,r⟩
 ·exact x a u r
 ·obtain⟨_,q⟩:=x a _ r
  exact q
noncomputable def Mut:Option HO->Prop
 | some (.lst _)=>True
 | some (.dK _)=>True
 | some (.dT _)=>True
 | some (.set _ _)=>True
 | some (.ins _ _ _)=>True
 | some (.ext _)=>True
 | _=>False
section
variable{P:Program}{w:World}{H:Hp}{h h':Heap}{x e:Addr}{o':HO}
theorem HOk.write(ok:HOk P w H h)(mu:Mut (H x))(he:e=x\/H e=some (.own x))(k:∀b u,b≠e->h.get? b=some u->h'.get? b=some u)(heo:∃u,h'.get? e=some u)
  (new:ObjOk P w (upd H x o') h' x o'):HOk P w (upd H x o') h':=λb u q=>by
 have nown:∀c y,H c=some (.own y)->c≠x:=λc y r z=>by subst z;rw[r]at mu;exact mu
 have ntup:∀c xs,H c=some (.tup xs)->c≠x:=λc xs r z=>by subst z;rw[r]at mu;exact mu
 by_cases hb:b=x
 ·subst hb;rw[aa]at q;cases q;exact new
 ·rw[ai hb]at q
  by_cases hbe:b=e
  ·have q':H b=some (.own x):=by
    rcases he with z|z
    ·exact absurd (hbe.trans z) hb
    ·rw[hbe];exact z
   rw[q]at q';cases q';obtain⟨v,hv⟩:=heo;exact⟨v,by rw[hbe];exact hv⟩
  ·refine(ok b u q).stay (λc v hc r=>k c v ?_ r) (λc r=>by rw[ai (nown c b r)];exact r) λc xs r=>by rw[ai (ntup c xs r)];exact r
   rcases hc with rfl|hc
   ·exact hbe
   ·rintro rfl
    rcases he with z|z
    ·exact nown c b hc z
    ·rw[hc]at z;cases z;exact hb rfl
end
structure Un (fs ex:List Addr) (H H':Hp) (h h':Heap):Prop where
 keep:∀b o,h.get? b=some o->H b=none->b∉fs->b∉ex->h'.get? b=some o
 slot:∀b o,h.get? b=some o->H b=none->b∈fs->b∉ex->∃sl,h'.get? b=some { o with slots:=sl }
 free:∀b o,h.get? b=some o->H b=none->b∉ex->H' b=none
 there:∀b o,h.get? b=some o->b∉ex->∃o',h'.get? b=some o'
 tups:∀b xs,H b=some (.tup xs)->H' b=some (.tup xs)
 frzs:∀b o u,H b=some (.frz o u)->H' b=some (.frz o u)
 tbls:∀b ps,H b=some (.tbl ps)->∃more,H' b=some (.tbl (ps++more))
section
variable{fs fs' ex ex':List Addr}{H H1 H2:Hp}{h h1 h2 h':Heap}{a x e:Addr}{o:HO}
theorem Un.any(u:Un fs ex H H1 h h1){b:Addr}{ob:Obj}(q:h.get? b=some ob)(n:H b=none)(hx:b∉ex):∃sl,h1.get? b=some { ob with slots:=sl }:=by
 by_cases hb:b∈fs
 ·exact u.slot b ob q n hb hx
 ·exact⟨ob.slots,u.keep b ob q n hb hx⟩
theorem Un.kept(k:∀b u,h.get? b=some u->h'.get? b=some u):Un fs ex H H h h':=
 ⟨λb ob q _ _ _=>k b ob q,λb ob q _ _ _=>⟨ob.slots,k b ob q⟩,λ_ _ _ n _=>n,λb ob q _=>⟨ob,k b ob q⟩,λ_ _ q=>q,λ_ _ _ q=>q,λ_ ps q=>⟨#[],by rw[q];simp⟩⟩
theorem Un.refl:Un fs ex H H h h:=Un.kept λ_ _ q=>q
theorem Un.laid(k:∀b u,h.get? b=some u->h'.get? b=some u)(hp:h.objs.size<=a)(hn:H a=none):Un fs ex H (upd H a o) h h' where
 keep:=λb u q _ _ _=>k b u q
 slot:=λb u q _ _ _=>⟨u.slots,k b u q⟩
 free:=λb u q n _=>by rw[ai (GV (G0 (GK q) hp))];exact n
 there:=λb u q _=>⟨u,k b u q⟩
 tups:=λb xs q=>by rw[ai (ae q hn)];exact q
 frzs:=λb u xs q=>by rw[ai (ae q hn)];exact q
 tbls:=λb ps q=>⟨#[],by rw[ai (ae q hn),q];simp⟩
theorem Un.write(mu:Mut (H x))(he:e=x\/H e=some (.own x))(k:∀b u,b≠e->h.get? b=some u->h'.get? b=some u)(heo:∃u,h'.get? e=some u):Un fs ex H (upd H x o) h h':=by
 have hx:∀b,H b=none->b≠x:=λb n z=>by subst z;rw[n]at mu;exact mu
 have hb:∀b,H b=none->b≠e:=λb n z=>by
  subst z;rcases he with r|r
  ·exact hx b n r
  ·rw[n]at r;cases r
 have hm:∀b u,H b=some u->¬Mut (some u)->b≠x:=λb u q nm z=>by subst z;rw[q]at mu;exact nm mu
 refine⟨λb u q n _ _=>k b u (hb b n) q,λb u q n _ _=>⟨u.slots,k b u (hb b n) q⟩,λb u q n _=>by rw[ai (hx b n)];exact n,λb u q _=>?_,
  λb xs q=>by rw[ai (hm b _ q λz=>z)];exact q,λb u xs q=>by rw[ai (hm b _ q λz=>z)];exact q,λb ps q=>⟨#[],by rw[ai (hm b _ q λz=>z),q];simp⟩⟩
 by_cases hbe:b=e
 ·subst hbe;exact heo
 ·exact⟨u,k b u hbe q⟩
end
noncomputable def trk(h:Heap)(H:Hp):List Addr:=(GH h.objs.size).filter λa=>(H a).isSome
noncomputable def vZ(h:Heap)(H:Hp):Heap:=PySem.W.hideAll h (trk h H)
theorem sj(h:Heap)(H:Hp):(vZ h H).objs.size=h.objs.size:=PySem.W.hideAll_size _ _
theorem we{h:Heap}{H:Hp}{b:Addr}{o:Obj}(e:h.get? b=some o)(n:H b=none):(vZ h H).get? b=some o:=
 PySem.W.hideAll_get _ e λhm=>by
  have q:(H b).isSome=true:=(JT.mp hm).2;rw[n]at q;simp at q
theorem yX{h:Heap}{H:Hp}{b:Addr}{o:Obj}(e:(vZ h H).get? b=some o):h.get? b=some o/\H b=none:=by
 have e':h.get? b=some o:=PySem.W.of_hideAll (trk h H) e;refine⟨e',?_⟩;cases q:H b with
 | none=>rfl
 | some x=>
  have hm:b∈trk h H:=JT.mpr ⟨Hj.mpr (GK e'),by simp[q]⟩;have z:(vZ h H).get? b=none:=PySem.W.hideAll_none (trk h H) hm;rw[z]at e;cases e
noncomputable def yY(g h:Heap)(L:Addr):List (Addr×Obj):=(GH h.objs.size).filterMap λa=>if a=L\/(g.get? a).isSome=true then none else(h.get? a).map λo=>(a,o)
noncomputable def rest(g h:Heap)(L d:Addr):List (Addr×Obj):=(yY g h L).filter λp=>decide (p.1≠d)
structure Mod (K:GC) (mg:Str->Option Value) (base:Heap):Prop where
 kin:K.In base
 glob:base.Ns mainGlobals mg
 blt:∃mb,base.Ns builtinsNs mb/\∀x:Str,x≠"__name__"->mb x=bootBuiltins x
 nolimit:base.NoLimit
/-- the context: a def's body (or a comprehension's block) running. base: fixed through the whole law;s₀,H₀: the entry;outer: the frames whose slots others may change (a def's callers);stack: all frames that run;
   ex: iterators that were made ahead of the entry and are walked here (a comprehension's);fn: the names whose cells were made at the entry (a def: all;a comprehension's block: its own);calm: not within an except suite;pn: pins that every state bears;xe: what is wanted of an exception that leaves the code -/
structure Cx where
 prog:Program
 w:World
 K:GC
 mg:Str->Option Value
 base:Heap
 A:Around
 N:List Str
 s₀:Shared
 H₀:Hp
 env:Env
 outer:List Env
 stack:List Env
 ex:List Addr
 fn:Str->Bool
 calm:Bool
 pn:List (Addr×Obj)
 xe:Value->Shared->Prop
noncomputable def frs(l:List Env):List Addr:=l.filterMap (·.frame)
noncomputable abbrev Cx.fs(X:Cx):List Addr:=frs X.outer
def Vis(sc:Scope)(x:Str):Prop:=sc.names.lookup x=some .local\/sc.names.lookup x=some .cell\/sc.names.lookup x=some .free
def Loc(sc:Scope)(x:Str):Prop:=sc.names.lookup x=some .local\/sc.names.lookup x=some .cell
def FJ(env:Env)(h:Heap)(m:Str->Option Value)(x:Str)(u:Value):Prop:=
 (env.kindOf x=some .local/\m x=some u)\/((env.kindOf x=some .cell\/env.kindOf x=some .free)/\∃c,env.cells.lookup x=some c/\h.IsCell c (some u))
structure Cx.Ok (X:Cx):Prop where
 mod:Mod X.K X.mg X.base
 kind:X.env.scope.kind=.function
 glob:X.env.globals=mainGlobals
 blt:X.env.builtins=builtinsNs
 above:X.s₀.heap.objs.size<=X.env.locals
 inj:∀x y c,X.env.cells.lookup x=some c->X.env.cells.lookup y=some c->x=y
 has:∀x,(X.env.kindOf x=some .cell\/X.env.kindOf x=some .free)->∃c,X.env.cells.lookup x=some c
 cab:∀x c,X.fn x=true->X.env.cells.lookup x=some c->X.s₀.heap.objs.size<=c
 hd:X.calm=true->X.A.handled=none
 frames:X.A.frames=some X.stack
 stk:X.stack=X.outer\/(X.stack=X.env::X.outer/\X.env.frame=some X.env.locals)
 exf:∀b∈X.ex,b≠X.env.locals/\∀x c,X.env.cells.lookup x=some c->c≠b
 bs:∀b o,X.base.get? b=some o->X.s₀.heap.get? b=some o/\X.H₀ b=none
 bsz:X.base.objs.size<=X.s₀.heap.objs.size
 noex:∀b o,X.base.get? b=some o->b∉X.ex
 exfs:∀b∈X.ex,b∉X.fs
 funs:X.s₀.heap.FunFrames X.base X.outer
 frf:∀b∈X.fs,X.H₀ b=none
structure Inv (X:Cx) (pins:List (Addr×Obj)) (σ:List (Option V)) (H:Hp) (s:Shared):Prop where
 ok:X.Ok
 os:s.os=X.s₀.os
 bare:AllBare s.gens
 base:Un X.fs X.ex X.H₀ H X.s₀.heap s.heap
 loc:∃m,s.heap.Ns X.env.locals m/\∀(i:Nat) (x:Str) (v:V),X.N[i]? = some x->σ[i]? = some (some v)->Vis X.env.scope x->∃u,RelV v u/\FJ X.env s.heap m x u
 cell:∀x c,X.env.cells.lookup x=some c->∃v,s.heap.IsCell c v
 free:H X.env.locals=none
 freeC:∀x c,X.env.cells.lookup x=some c->H c=none
 pin:∀p∈X.pn++pins,s.heap.get? p.1=some p.2/\H p.1=none/\p.1≠X.env.locals/\p.1∉X.fs/\∀v,p.2.data≠.cell v
 hok:HOk X.prog X.w H s.heap
 len:σ.length=X.N.length
section
variable{X:Cx}{pins:List (Addr×Obj)}{σ:List (Option V)}{H H':Hp}{s:Shared}{h':Heap}
theorem Cx.Ok.nofr(ok:X.Ok){b:Addr}{o:Obj}(e:X.base.get? b=some o):b∉X.fs:=λhb=>by
 have:=(ok.funs.mem hb).1;rw[e]at this;cases this
theorem Inv.bs(I:Inv X pins σ H s):∀b o,X.base.get? b=some o->s.heap.get? b=some o/\H b=none:=λb o e=>
 ⟨I.base.keep b o (I.ok.bs b o e).1 (I.ok.bs b o e).2 (I.ok.nofr e) (I.ok.noex b o e),I.base.free b o (I.ok.bs b o e).1 (I.ok.bs b o e).2 (I.ok.noex b o e)⟩
theorem Inv.bk(I:Inv X pins σ H s):∀b o,X.base.get? b=some o->s.heap.get? b=some o:=λb o e=>(I.bs b o e).1
theorem Inv.mod(I:Inv X pins σ H s):Mod X.K X.mg X.base:=I.ok.mod
theorem Inv.kIn(I:Inv X pins σ H s):X.K.In s.heap:=I.ok.mod.kin.keeps I.bk
theorem Inv.nolimit(I:Inv X pins σ H s):s.heap.NoLimit:=I.ok.mod.nolimit.keeps I.bk
theorem Inv.lt(I:Inv X pins σ H s):X.env.locals<s.heap.objs.size:=let⟨_,hn,_⟩:=I.loc;hn.lt
theorem Inv.sz(I:Inv X pins σ H s):X.s₀.heap.objs.size<=s.heap.objs.size:=HJ I.ok.above (HK I.lt)
theorem Inv.nofs(I:Inv X pins σ H s){a:Addr}(h:s.heap.objs.size<=a):a∉X.fs:=λhb=>by
 obtain⟨_,o,ho,_⟩:=I.ok.funs.mem hb;exact absurd (G0 (GK ho) (HJ I.sz h)) (Hw _)
theorem Inv.cne(I:Inv X pins σ H s):∀x c,X.env.cells.lookup x=some c->c≠X.env.locals:=λx c e z=>by
 obtain⟨v,o,ho,hd⟩:=I.cell x c e;obtain⟨m,⟨o',es,ep,ho',hd',_⟩,_⟩:=I.loc;rw[z,ho']at ho;cases ho;rw[hd']at hd;cases hd
theorem Inv.funs(I:Inv X pins σ H s):s.heap.FunFrames X.base X.outer:=by
 have all:∀(l:List Env),(∀b∈frs l,b∈X.fs)->X.s₀.heap.FunFrames X.base l->s.heap.FunFrames X.base l:=by
  intro l
  induction l with
  | nil=>intro _ _;trivial
  | cons env r ih=>
   intro hs hl;obtain⟨hk,⟨L,o,hf,hn,ho,hd⟩,hr⟩:=hl;have hL:L∈X.fs:=hs L (by unfold frs;rw[KU,hf];exact Hl);obtain⟨sl,e⟩:=I.base.slot L o ho (I.ok.frf L hL) hL λz=>I.ok.exfs L z hL
   exact⟨hk,⟨L,_,hf,hn,e,hd⟩,ih (λb hb=>hs b (by unfold frs;rw[KU,hf];exact Hn _ hb)) hr⟩
 exact all X.outer (λ_ hb=>hb) I.ok.funs
theorem Inv.stack(I:Inv X pins σ H s):s.heap.FunFrames X.base X.stack:=by
 rcases I.ok.stk with e|⟨e,hf⟩
 ·rw[e];exact I.funs
 ·rw[e]
  obtain⟨m,hn,_⟩:=I.loc;refine .cons (by rw[I.ok.kind];decide) hf hn ?_ I.funs;exact Heap.get?_none_of_le (HJ I.ok.bsz I.ok.above)
theorem Inv.stkSub(I:Inv X pins σ H s):∀b∈frs X.stack,b∈X.env.locals::X.fs:=λb hb=>by
 rcases I.ok.stk with e|⟨e,hf⟩
 ·rw[e]at hb;exact Hn _ hb
 ·rw[e]at hb
  unfold frs at hb;rw[KU,hf]at hb;exact hb
theorem Inv.stkFree(I:Inv X pins σ H s):∀b∈frs X.stack,H b=none:=λb hb=>by
 rcases GW.mp (I.stkSub b hb)with e|hb
 ·rw[e];exact I.free
 ·obtain⟨_,o,ho,_⟩:=I.ok.funs.mem hb
  exact I.base.free b o ho (I.ok.frf b hb) λz=>I.ok.exfs b z hb
theorem Inv.step{g':Array GenState}{t':Nat}{d':Drawn}{ch:List Addr}(I:Inv X pins σ H s)
  (hch:∀b∈ch,(b∈X.ex\/X.s₀.heap.objs.size<=b)/\b≠X.env.locals/\(∀x c,X.env.cells.lookup x=some c->c≠b)/\∀p∈X.pn++pins,p.1≠b)
  (keep:∀b o,b≠X.env.locals->b∉X.fs->b∉ch->s.heap.get? b=some o->H b=none->h'.get? b=some o)
  (slot:∀b o,b≠X.env.locals->b∈X.fs->b∉ch->s.heap.get? b=some o->H b=none->∃sl,h'.get? b=some { o with slots:=sl }) (free:∀b o,b∉ch->s.heap.get? b=some o->H b=none->H' b=none)
  (there:∀b o,b∉ch->s.heap.get? b=some o->∃o',h'.get? b=some o')
  (tups:∀b xs,H b=some (.tup xs)->H' b=some (.tup xs)) (frzs:∀b o u,H b=some (.frz o u)->H' b=some (.frz o u)) (tbls:∀b ps,H b=some (.tbl ps)->∃more,H' b=some (.tbl (ps++more)))
  (ns:∀m,s.heap.Ns X.env.locals m->h'.Ns X.env.locals m) (hok:HOk X.prog X.w H' h') (hg:AllBare g') :
  Inv X pins σ H' { s with heap:=h',gens:=g',drawn:=d',toks:=t' }:=by
 have neL:∀b o,X.s₀.heap.get? b=some o->b≠X.env.locals:=λb o e=>GV (G0 (GK e) I.ok.above)
 have neC:∀b o,X.s₀.heap.get? b=some o->b∉X.ex->b∉ch:=λb o e hx hb=>by
  rcases(hch b hb).1 with z|z
  ·exact hx z
  ·exact absurd (G0 (GK e) z) (Hw _)
 have cellK:∀x c,X.env.cells.lookup x=some c->∀v,s.heap.IsCell c v->h'.IsCell c v:=λx c e v ⟨o,ho,hd⟩=>by
  have nch:c∉ch:=λz=>(hch c z).2.2.1 x c e rfl
  by_cases hc:c∈X.fs
  ·obtain⟨sl,q⟩:=slot c o (I.cne x c e) hc nch ho (I.freeC x c e)
   exact⟨_,q,hd⟩
  ·exact⟨o,keep c o (I.cne x c e) hc nch ho (I.freeC x c e),hd⟩
 refine⟨I.ok,I.os,hg,⟨λb o e n hb hx=>?_,λb o e n hb hx=>?_,λb o e n hx=>?_,λb o e hx=>?_,λb xs e=>tups b xs (I.base.tups b xs e),λb o xs e=>frzs b o xs (I.base.frzs b o xs e),λb ps e=>?_⟩,?_,λx c e=>?_,?_,λx c e=>?_,λp hp=>?_,hok,I.len⟩
 ·exact keep b o (neL b o e) hb (neC b o e hx) (I.base.keep b o e n hb hx) (I.base.free b o e n hx)
 ·obtain⟨sl,e1⟩:=I.base.slot b o e n hb hx
  obtain⟨sl',e2⟩:=slot b _ (neL b o e) hb (neC b o e hx) e1 (I.base.free b o e n hx);exact⟨sl',e2⟩
 ·obtain⟨o',e1⟩:=I.base.there b o e hx
  exact free b o' (neC b o e hx) e1 (I.base.free b o e n hx)
 ·obtain⟨o',e1⟩:=I.base.there b o e hx
  exact there b o' (neC b o e hx) e1
 ·obtain⟨m1,e1⟩:=I.base.tbls b ps e
  obtain⟨m2,e2⟩:=tbls b _ e1;exact⟨m1++m2,by rw[e2,Array.append_assoc]⟩
 ·obtain⟨m,hn,hl⟩:=I.loc
  refine⟨m,ns m hn,λi x v e1 e2 e3=>?_⟩;obtain⟨u,r,l⟩:=hl i x v e1 e2 e3;refine⟨u,r,?_⟩;rcases l with l|⟨k,c,e,z⟩
  ·exact .inl l
  ·exact .inr ⟨k,c,e,cellK x c e _ z⟩
 ·obtain⟨v,z⟩:=I.cell x c e
  exact⟨v,cellK x c e v z⟩
 ·obtain⟨m,⟨o,_,_,ho,_⟩,_⟩:=I.loc
  exact free _ o (λz=>(hch _ z).2.1 rfl) ho I.free
 ·obtain⟨v,o,ho,hd⟩:=I.cell x c e
  exact free c o (λz=>(hch c z).2.2.1 x c e rfl) ho (I.freeC x c e)
 ·obtain⟨e,n,ne,nf,d⟩:=I.pin p hp
  have nch:p.1∉ch:=λz=>(hch p.1 z).2.2.2 p hp rfl
  exact⟨keep p.1 p.2 ne nf nch e n,free p.1 p.2 nch e n,ne,nf,d⟩
theorem Inv.un{t':Nat}(I:Inv X pins σ H s)(u:Un X.fs [] H H' s.heap h')(hok:HOk X.prog X.w H' h'):Inv X pins σ H' { s with heap:=h',toks:=t' }:=by
 obtain⟨m,⟨o,es,ep,ho,r⟩,_⟩:=id I.loc;obtain⟨sl,hL⟩:=u.any ho I.free (by simp);exact I.step (g':=s.gens) (d':=s.drawn) (ch:=[]) (λ_ z=>nomatch z) (λb o _ hb _ e n=>u.keep b o e n hb (by simp)) (λb o _ hb _ e n=>u.slot b o e n hb (by simp)) (λb o _ e n=>u.free b o e n (by simp)) (λb o _ e=>u.there b o e (by simp)) u.tups u.frzs u.tbls (λm' hm=>by
  obtain⟨o',es',ep',ho',r'⟩:=hm;rw[ho]at ho';cases ho';exact⟨_,es',ep',hL,r'⟩) hok I.bare
theorem Inv.call{g':Array GenState}{t':Nat}{d':Drawn}{ch:List Addr}(I:Inv X pins σ H s)(u:Un (frs X.stack) ch H H' s.heap h')(hok:HOk X.prog X.w H' h')(hg:AllBare g')
  (hch:∀b∈ch,(b∈X.ex\/X.s₀.heap.objs.size<=b)/\b≠X.env.locals/\(∀x c,X.env.cells.lookup x=some c->c≠b)/\∀p∈X.pn++pins,p.1≠b) :
  Inv X pins σ H' { s with heap:=h',gens:=g',drawn:=d',toks:=t' }:=by
 obtain⟨m,⟨o,es,ep,ho,r⟩,_⟩:=id I.loc;obtain⟨sl,hL⟩:=u.any ho I.free λz=>(hch _ z).2.1 rfl
 exact I.step (ch:=ch) hch (λb o hL hb hc e n=>u.keep b o e n (λz=>(GW.mp (I.stkSub b z)).elim hL hb) hc) (λb o _ _ hc e n=>u.any e n hc) (λb o hc e n=>u.free b o e n hc) (λb o hc e=>u.there b o e hc) u.tups u.frzs u.tbls (λm' hm=>by
  obtain⟨o',es',ep',ho',r'⟩:=hm;rw[ho]at ho';cases ho';exact⟨_,es',ep',hL,r'⟩) hok hg
theorem Inv.turned{t':Nat}{it:Addr}(I:Inv X pins σ H s)(k:∀b o,b≠it->s.heap.get? b=some o->h'.get? b=some o)(hn:H it=none)(hL:it≠X.env.locals)
  (h1:it∈X.ex\/X.s₀.heap.objs.size<=it) (h2:∀x c,X.env.cells.lookup x=some c->c≠it) (h3:∀p∈X.pn++pins,p.1≠it):Inv X pins σ H { s with heap:=h',toks:=t' }:=by
 have nit:∀b u,H b=some u->b≠it:=λb u e z=>by rw[z,hn]at e;cases e
 refine I.step (g':=s.gens) (d':=s.drawn) (ch:=[it]) (λb hb=>?_) (λb o _ _ hc e _=>k b o (λz=>hc (by simp[z])) e) (λb o _ _ hc e _=>⟨o.slots,k b o (λz=>hc (by simp[z])) e⟩) (λ_ _ _ _ n=>n)
  (λb o hc e=>⟨o,k b o (λz=>hc (by simp[z])) e⟩) (λ_ _ e=>e) (λ_ _ _ e=>e) (λb ps e=>⟨#[],by rw[e];simp⟩) (λm hm=>?_) (λb u e=>?_) I.bare
 ·have e:b=it:=by simpa using hb
  subst e;exact⟨h1,hL,h2,h3⟩
 ·obtain⟨o,es,ep,ho,r⟩:=hm
  exact⟨o,es,ep,k _ o (Hx hL) ho,r⟩
 ·refine(I.hok b u e).stay (λc v hc q=>k c v ?_ q) (λ_ q=>q) λ_ _ q=>q
  rcases hc with z|z
  ·rw[z];exact nit b u e
  ·exact nit c _ z
theorem Inv.tok(I:Inv X pins σ H s)(t:Nat):Inv X pins σ H { s with toks:=t }:=I.un (h':=s.heap) (t':=t) Un.refl I.hok
theorem Inv.kept{t':Nat}(I:Inv X pins σ H s)(k:∀b u,s.heap.get? b=some u->h'.get? b=some u):Inv X pins σ H { s with heap:=h',toks:=t' }:=I.un (Un.kept k) (I.hok.kept k)
theorem Inv.laid{a:Addr}{o:HO}{t':Nat}(I:Inv X pins σ H s)(k:∀b u,s.heap.get? b=some u->h'.get? b=some u)(hp:s.heap.objs.size<=a)(new:ObjOk X.prog X.w (upd H a o) h' a o):
  Inv X pins σ (upd H a o) { s with heap:=h',toks:=t' }:=I.un (Un.laid k hp (I.hok.fresh hp)) (I.hok.laid k hp new)
theorem Inv.write{x e:Addr}{o:HO}{t':Nat}(I:Inv X pins σ H s)(mu:Mut (H x))(he:e=x\/H e=some (.own x))(k:∀b u,b≠e->s.heap.get? b=some u->h'.get? b=some u)(heo:∃u,h'.get? e=some u)
  (new:ObjOk X.prog X.w (upd H x o) h' x o):Inv X pins σ (upd H x o) { s with heap:=h',toks:=t' }:=I.un (Un.write mu he k heo) (I.hok.write mu he k heo new)
theorem Inv.pins_of{pins':List (Addr×Obj)}(I:Inv X pins σ H s)(h:∀p∈pins',s.heap.get? p.1=some p.2/\H p.1=none/\p.1≠X.env.locals/\p.1∉X.fs/\∀v,p.2.data≠.cell v):Inv X pins' σ H s:=
 ⟨I.ok,I.os,I.bare,I.base,I.loc,I.cell,I.free,I.freeC,λp hp=>(G9.mp hp).elim (λz=>I.pin p (HL _ z)) (h p),I.hok,I.len⟩
theorem pT{N:List Str}(hN:N.Nodup){i j:Nat}{x:Str}(a:N[i]? = some x)(b:N[j]? = some x):i=j:=by
 obtain⟨h1,e1⟩:=GQ.mp a;obtain⟨h2,e2⟩:=GQ.mp b;exact(List.getElem_inj hN).mp (e1.trans e2.symm)
theorem sk{M:Model}{A:Around}{E:Value->Shared->Prop}{i:Nat}{x:Str}{v:V}{u:Value}{Q:Unit->Shared->Prop}(I:Inv X pins σ H s)(hN:X.N.Nodup)(hi:X.N[i]? = some x)(hx:Loc X.env.scope x)(r:RelV v u)
  (h:∀s',Inv X pins (σ.set i (some v)) H s'->(∃a,IU a s.heap s'.heap/\(a=X.env.locals\/X.env.cells.lookup x=some a))->Q () s') (hf:X.fn x=true\/X.env.scope.names.lookup x=some .local:=by first|exact .inl rfl|exact .inr rfl|assumption):wpAny M A (storeName X.env x u) Q E s:=by
 obtain⟨m,hn,hl⟩:=id I.loc;have hcls:(X.env.scope.kind == .class || (X.env.scope.kind == .module && X.env.locals != X.env.globals))=false:=by rw[I.ok.kind];rfl
 have hiσ:i<σ.length:=by rw[I.len];exact(GQ.mp hi).1
 have cne:=I.cne;have tracked:∀{a:Addr}{h':Heap},(∃o,s.heap.get? a=some o/\H a=none)->IU a s.heap h'->HOk X.prog X.w H h':=λ{a h'} ha hs b ob e=>by
  obtain⟨_,_,hfree⟩:=ha;refine(I.hok b ob e).stay (λc w' hc q=>(hs.2 c ?_).trans q) (λ_ q=>q) λ_ _ q=>q
  rintro rfl;rcases hc with rfl|hc
  ·rw[hfree]at e;cases e
  ·rw[hfree]at hc;cases hc
 rcases hx with hk|hk
 ·refine wpAny_storeName_local hk hn (λh' hn' hs=>?_) hcls
  obtain⟨oL,_,_,hoL,_⟩:=id hn;refine h _ ⟨I.ok,I.os,I.bare,⟨λb o e n hb hx=>?_,λb o e n hb hx=>?_,I.base.free,λb o e hx=>?_,I.base.tups,I.base.frzs,I.base.tbls⟩,⟨_,hn',λj y v' e1 e2 e3=>?_⟩,λy c e=>?_,I.free,I.freeC,λp hp=>?_,tracked ⟨oL,hoL,I.free⟩ hs,by simpa using I.len⟩ ⟨_,hs,.inl rfl⟩
  ·exact(hs.2 b (GV (G0 (GK e) I.ok.above))).trans (I.base.keep b o e n hb hx)
  ·obtain⟨sl,e1⟩:=I.base.slot b o e n hb hx
   exact⟨sl,(hs.2 b (GV (G0 (GK e) I.ok.above))).trans e1⟩
  ·obtain⟨o',e1⟩:=I.base.there b o e hx
   exact⟨o',(hs.2 b (GV (G0 (GK e) I.ok.above))).trans e1⟩
  ·by_cases hj:j=i
   ·subst hj
    rw[hi]at e1;cases e1;rw[Mq hiσ]at e2;cases e2;exact⟨u,r,.inl ⟨hk,by simp⟩⟩
   ·rw[MO (Hx hj)]at e2
    obtain⟨u',r',q⟩:=hl j y v' e1 e2 e3;refine⟨u',r',?_⟩;rcases q with⟨k,e⟩|⟨k,c,e,z⟩
    ·refine .inl ⟨k,?_⟩
     have:y≠x:=λe=>hj (pT hN e1 (e▸hi))
     simp[this,e]
    ·exact .inr ⟨k,c,e,z.sameBut hs (cne y c e)⟩
  ·obtain⟨w',z⟩:=I.cell y c e
   exact⟨w',z.sameBut hs (cne y c e)⟩
  ·obtain⟨e,n,ne,nf,d⟩:=I.pin p hp
   exact⟨(hs.2 p.1 ne).trans e,n,ne,nf,d⟩
 ·have hfn:X.fn x=true:=by
   rcases hf with z|z
   ·exact z
   ·rw[z]at hk;cases hk
  obtain⟨c,hc⟩:=I.ok.has x (.inl hk);obtain⟨w',z⟩:=I.cell x c hc;refine wpAny_storeName_cell I.ok.kind hk hc z (λh' hc' hs=>?_);obtain⟨oc,hoc,hocd⟩:=id z;refine h { s with heap:=h' } ⟨I.ok,I.os,I.bare,⟨λb o e n hb hx=>?_,λb o e n hb hx=>?_,I.base.free,λb o e hx=>?_,I.base.tups,I.base.frzs,I.base.tbls⟩,⟨m,hn.sameBut hs (Hx (cne x c hc)),λj y v' e1 e2 e3=>?_⟩,λy c' e=>?_,I.free,I.freeC,λp hp=>?_,tracked ⟨oc,hoc,I.freeC x c hc⟩ hs,by simpa using I.len⟩ ⟨c,hs,.inr hc⟩
  ·exact(hs.2 b (GV (G0 (GK e) (I.ok.cab x c hfn hc)))).trans (I.base.keep b o e n hb hx)
  ·obtain⟨sl,e1⟩:=I.base.slot b o e n hb hx
   exact⟨sl,(hs.2 b (GV (G0 (GK e) (I.ok.cab x c hfn hc)))).trans e1⟩
  ·obtain⟨o',e1⟩:=I.base.there b o e hx
   exact⟨o',(hs.2 b (GV (G0 (GK e) (I.ok.cab x c hfn hc)))).trans e1⟩
  ·by_cases hj:j=i
   ·subst hj
    rw[hi]at e1;cases e1;rw[Mq hiσ]at e2;cases e2;exact⟨u,r,.inr ⟨.inl hk,c,hc,hc'⟩⟩
   ·rw[MO (Hx hj)]at e2
    obtain⟨u',r',q⟩:=hl j y v' e1 e2 e3;refine⟨u',r',?_⟩;rcases q with q|⟨k,c',e,z'⟩
    ·exact .inl q
    ·refine .inr ⟨k,c',e,z'.sameBut hs ?_⟩
     rintro rfl;exact hj (pT hN e1 (I.ok.inj _ _ _ e hc▸hi))
  ·by_cases hcc:c'=c
   ·subst hcc;exact⟨_,hc'⟩
   ·obtain⟨w2,z2⟩:=I.cell y c' e
    exact⟨w2,z2.sameBut hs hcc⟩
  ·obtain⟨e,n,ne,nf,d⟩:=I.pin p hp
   refine⟨(hs.2 p.1 ?_).trans e,n,ne,nf,d⟩;intro q;rw[q,hoc]at e;have q':oc=p.2:=G8 e;exact d w' (by rw[<-q'];exact hocd)
theorem dW{M:Model}{A:Around}{E:Value->Shared->Prop}{i:Nat}{x:Str}{v:V}{u:Value}{Q:Unit->Shared->Prop}(I:Inv X pins σ H s)(hN:X.N.Nodup)(hi:X.N[i]? = some x)(hx:Loc X.env.scope x)(r:RelV v u)
  (h:∀s',Inv X pins (σ.set i (some v)) H s'->Q () s') (hf:X.fn x=true\/X.env.scope.names.lookup x=some .local:=by first|exact .inl rfl|exact .inr rfl|assumption):wpAny M A (storeName X.env x u) Q E s:=
 sk I hN hi hx r (λs' I' _=>h s' I') hf
theorem Inv.call'{s':Shared}{ch:List Addr}(I:Inv X pins σ H s)(ho:s'.os=s.os)(u:Un (frs X.stack) ch H H' s.heap s'.heap)(hok:HOk X.prog X.w H' s'.heap)(hg:AllBare s'.gens)
  (hch:∀b∈ch,(b∈X.ex\/X.s₀.heap.objs.size<=b)/\b≠X.env.locals/\(∀x c,X.env.cells.lookup x=some c->c≠b)/\∀p∈X.pn++pins,p.1≠b):Inv X pins σ H' s':=by
 obtain⟨h',g',d',t',o'⟩:=s';have e:o'=s.os:=ho;subst e;exact I.call (g':=g') (t':=t') (d':=d') u hok hg hch
end
noncomputable abbrev XK:=Value->Option Addr->Hp->Prop
noncomputable abbrev St:=List (Option V)
noncomputable abbrev VK:=V->Hp->Prop
noncomputable abbrev TE:=St->Hp->VK->Prop
noncomputable abbrev TT:=St->Hp->(Bool->Hp->Prop)->Prop
noncomputable abbrev TA:=St->Hp->(List V->Hp->Prop)->Prop
structure Ends where
 nx:St->Hp->Prop
 rt:VK
 bk:St->Hp->Prop:=λ_ _=>False
 ct:St->Hp->Prop:=λ_ _=>False
noncomputable abbrev TS:=Ends->St->Hp->Prop
def EP(X:Cx)(pins:List (Addr×Obj))(σ:St)(Q:VK)(u:Value)(s':Shared):Prop:=∃v H',Inv X pins σ H' s'/\RelV v u/\Q v H'
def TP(X:Cx)(pins:List (Addr×Obj))(σ:St)(Q:Bool->Hp->Prop)(b:Bool)(s':Shared):Prop:=∃H',Inv X pins σ H' s'/\Q b H'
def AP(X:Cx)(pins:List (Addr×Obj))(σ:St)(Q:List V->Hp->Prop)(us:List Value)(s':Shared):Prop:=∃vs H',Inv X pins σ H' s'/\Vals vs us/\Q vs H'
def SP(X:Cx)(pins:List (Addr×Obj))(D:Ends)(f:Flow)(s':Shared):Prop:=
 match f with
 | .next=>∃σ' H',Inv X pins σ' H' s'/\D.nx σ' H'
 | .brk=>∃σ' H',Inv X pins σ' H' s'/\D.bk σ' H'
 | .cont=>∃σ' H',Inv X pins σ' H' s'/\D.ct σ' H'
 | .ret u=>∃v σ' H',Inv X pins σ' H' s'/\RelV v u/\D.rt v H'
def PE(X:Cx)(e:Expr)(t:TE):Prop:=
 ∀(pins:List (Addr×Obj)) (s:Shared) (σ:St) (H:Hp) (Q:VK),Inv X pins σ H s->t σ H Q->wpAny (model X.prog X.w) X.A (eval e X.env) (EP X pins σ Q) X.xe s
def PT(X:Cx)(e:Expr)(t:TT):Prop:=
 ∀(pins:List (Addr×Obj)) (s:Shared) (σ:St) (H:Hp) (Q:Bool->Hp->Prop),Inv X pins σ H s->t σ H Q->wpAny (model X.prog X.w) X.A (isTrue e X.env (eval e X.env)) (TP X pins σ Q) X.xe s
def PW(X:Cx)(e:Expr)(t:TT):Prop:=
 ∀(whole:Sem Value) (pins:List (Addr×Obj)) (s:Shared) (σ:St) (H:Hp) (Q:Bool->Hp->Prop),Inv X pins σ H s->t σ H Q->wpAny (model X.prog X.w) X.A (isTrue e X.env whole) (TP X pins σ Q) X.xe s
theorem PW.pt{X:Cx}{e:Expr}{t:TT}(h:PW X e t):PT X e t:=h _
def PA(X:Cx)(es:List Expr)(t:TA):Prop:=
 ∀(pos:Pos) (pins:List (Addr×Obj)) (s:Shared) (σ:St) (H:Hp) (Q:List V->Hp->Prop),Inv X pins σ H s->t σ H Q->wpAny (model X.prog X.w) X.A (spliced (backTo pos (starEach es X.env))) (AP X pins σ Q) X.xe s
def PS(X:Cx)(st:Stmt)(t:TS):Prop:=
 ∀(pins:List (Addr×Obj)) (s:Shared) (σ:St) (H:Hp) (D:Ends),Inv X pins σ H s->t D σ H->wpAny (model X.prog X.w) X.A (exec st X.env) (SP X pins D) X.xe s
def PSs(X:Cx)(st:List Stmt)(t:TS):Prop:=
 ∀(pins:List (Addr×Obj)) (s:Shared) (σ:St) (H:Hp) (D:Ends),Inv X pins σ H s->t D σ H->wpAny (model X.prog X.w) X.A (execs st X.env) (SP X pins D) X.xe s
theorem thn{α:Type}{t:Sem α}{Q Q':α->Shared->Prop}{M:Model}{A:Around}{E:Value->Shared->Prop}{s:Shared}(h:wpAny M A t Q E s)(hQ:∀a s,Q a s->Q' a s):wpAny M A t Q' E s:=P8 h hQ λ_ _ x=>x
section
variable{X:Cx}
def Dy(i:Nat):TE:=λσ H Q=>∃v,σ[i]? = some (some v)/\Q v H
def tC(v:V):TE:=λ_ H Q=>Q v H
theorem Ba {i:Nat}{x:Str}{pos:Pos}(hN:X.N[i]? = some x) (hv:Vis X.env.scope x) (hd:(x == ("__debug__" : Str))=false:=by decide) (hcd:(x == ("__classdict__" : Str))=false:=by decide):PE X (.Name x pos) (Dy i):=by
 intro pins s σ H Q I h;obtain⟨v,e,h⟩:=h;obtain⟨m,hn,hl⟩:=I.loc;obtain⟨u,r,l⟩:=hl i x v hN e hv;have fin:EP X pins σ Q u s:=⟨v,H,I,r,h⟩;rcases l with⟨hk,hm⟩|⟨hk,c,hc,hcell⟩
 ·exact wpAny_Name (wpAny_loadName_local I.ok.kind hk hn hm fin) hd
 ·rcases hk with hk|hk
  ·exact wpAny_Name (wpAny_loadName_cell I.ok.kind hk hc hcell fin) hd
  ·exact wpAny_Name (wpAny_loadName_free I.ok.kind hk hc hcell fin hcd) hd
theorem ye{i j pos}:PE X (.Constant (.int i) j pos) (tC (.int i)):=λ_ _ _ H _ I h=>wpAny_Constant_int ⟨.int i,H,I.tok _,⟨_,rfl⟩,h⟩
theorem Dz{b j pos}:PE X (.Constant (.bool b) j pos) (tC (.bl b)):=λ_ _ _ H _ I h=>Constant_bool ⟨.bl b,H,I,rfl,h⟩
theorem Bb{x j pos}:PE X (.Constant (.str x) j pos) (tC (.str x)):=λ_ _ _ H _ I h=>Calls.Constant_str ⟨.str x,H,I.tok _,⟨_,rfl⟩,h⟩
def Gl(X:Cx)(x:Str):Prop:=X.env.kindOf x=some .globalImplicit
theorem sq{E:Value->Shared->Prop}{pins:List (Addr×Obj)}{s:Shared}{σ:St}{H:Hp}{x:Str}{u:Value}{pos:Pos}{Q:Value->Shared->Prop}(I:Inv X pins σ H s)(hg:Gl X x)(hm:X.mg x=some u)(h:Q u s)
  (hd:(x == ("__debug__" : Str))=false:=by decide):wpAny (model X.prog X.w) X.A (eval (.Name x pos) X.env) Q E s:=
 Li I.ok.kind hg (Calls.loadGlobal_global (by rw[I.ok.glob];exact I.mod.glob.keeps I.bk) hm h) hd
theorem dh{E:Value->Shared->Prop}{pins:List (Addr×Obj)}{s:Shared}{σ:St}{H:Hp}{x:Str}{u:Value}{pos:Pos}{Q:Value->Shared->Prop}(I:Inv X pins σ H s)(hg:Gl X x)(hm:X.mg x=none)(hv:bootBuiltins x=some u)(h:Q u s)
  (hn:x≠"__name__":=by decide) (hd:(x == ("__debug__" : Str))=false:=by decide):wpAny (model X.prog X.w) X.A (eval (.Name x pos) X.env) Q E s:=by
 obtain⟨mb,h1,h2⟩:=I.mod.blt;exact Li I.ok.kind hg (Calls.loadGlobal_builtin (by rw[I.ok.glob];exact I.mod.glob.keeps I.bk) hm (by rw[I.ok.blt];exact h1.keeps I.bk) ((h2 x hn).trans hv) h) hd
theorem yZ {x:Str}{v:V}{u:Value}{pos:Pos}(hg:Gl X x) (hm:X.mg x=some u) (r:RelV v u) (hd:(x == ("__debug__" : Str))=false:=by decide):PE X (.Name x pos) (tC v):=
 λ_ _ _ H _ I h=>sq I hg hm ⟨v,H,I,r,h⟩ hd
theorem y0 {x:Str}{v:V}{u:Value}{pos:Pos}(hg:Gl X x) (hm:X.mg x=none) (hv:bootBuiltins x=some u) (r:RelV v u) (hn:x≠"__name__":=by decide) (hd:(x == ("__debug__" : Str))=false:=by decide):PE X (.Name x pos) (tC v):=
 λ_ _ _ H _ I h=>dh I hg hm hv ⟨v,H,I,r,h⟩ hn hd
variable{a b:Expr}{ta tb:TE}{pos:Pos}
def tB(t:TE):TT:=λσ H Q=>t σ H λx H1=>∃c,x=.bl c/\Q c H1
theorem Bc{e:Expr}{t:TE}(h:PE X e t)(he:∀whole,isTrue e X.env whole=(do let v <-whole;standAt e.pos;Qo [v] (truthy v)):=by intro _;rfl):PT X e (tB t):=by
 intro pins s σ H Q I hw;refine isTrue_plain (thn (h pins s σ H _ I hw) λv s1 ⟨x,H1,I1,r1,q1⟩=>?_) (he _);obtain⟨d,rfl,q⟩:=q1;cases r1;exact QK ⟨H1,I1,q⟩
variable{tA tB':TT}{rest:List Expr}
def DA(t u:TT):TT:=λσ H Q=>t σ H λc H1=>if c=true then u σ H1 Q else Q false H1
def tOr(t u:TT):TT:=λσ H Q=>t σ H λc H1=>if c=true then Q true H1 else u σ H1 Q
def DB(t:TT):TT:=λσ H Q=>t σ H λc H1=>Q (!c) H1
theorem y2(ha:PT X a tA):PW X (.BoolOp .And [a] pos) tA:=by
 intro wh pins s σ H Q I h;refine isTrue_and (thn (ha pins s σ H Q I h) λc s1 e=>?_);cases c with
 | true=>exact isTrue_and_nil e
 | false=>exact e
theorem Bd(ha:PT X a tA):PW X (.BoolOp .Or [a] pos) tA:=by
 intro wh pins s σ H Q I h;refine isTrue_or (thn (ha pins s σ H Q I h) λc s1 e=>?_);cases c with
 | false=>exact isTrue_or_nil e
 | true=>exact e
theorem Be(ha:PT X a tA)(hb:PW X (.BoolOp .And (b::rest) pos) tB'):PW X (.BoolOp .And (a::b::rest) pos) (DA tA tB'):=by
 intro wh pins s σ H Q I h;refine isTrue_and (thn (ha pins s σ H _ I h) λc s1 ⟨H1,I1,q1⟩=>?_);cases c with
 | true=>exact hb wh pins s1 σ H1 Q I1 q1
 | false=>exact⟨H1,I1,q1⟩
theorem DC(ha:PT X a tA)(hb:PW X (.BoolOp .Or (b::rest) pos) tB'):PW X (.BoolOp .Or (a::b::rest) pos) (tOr tA tB'):=by
 intro wh pins s σ H Q I h;refine isTrue_or (thn (ha pins s σ H _ I h) λc s1 ⟨H1,I1,q1⟩=>?_);cases c with
 | true=>exact⟨H1,I1,q1⟩
 | false=>exact hb wh pins s1 σ H1 Q I1 q1
theorem Bf(ha:PT X a tA):PT X (.UnaryOp .Not a pos) (DB tA):=by
 intro pins s σ H Q I h;exact isTrue_not (ha pins s σ H (λc H1=>Q (!c) H1) I h)
def tIf(t:TT)(ta tb:TE):TE:=λσ H Q=>t σ H λc H1=>if c=true then ta σ H1 Q else tb σ H1 Q
theorem wf{c:Expr}(hc:PT X c tA)(ha:PE X a ta)(hb:PE X b tb):PE X (.IfExp c a b pos) (tIf tA ta tb):=by
 intro pins s σ H Q I h;refine wpAny_IfExp (thn (hc pins s σ H _ I h) λd s1 ⟨H1,I1,q1⟩=>?_);cases d with
 | true=>exact ha pins s1 σ H1 Q I1 q1
 | false=>exact hb pins s1 σ H1 Q I1 q1
end
def SqL(K:GC)(H:Hp)(a:Addr)(xs:List V):Prop:=
 Rd H a (.lst xs)\/
  ∃(o:Obj) (its:Array Value) (n:Nat),K.lookup a=some o/\o.cls=.type "list"/\o.dict=none/\o.data=.seq its n/\its.size<=P4/\Vals xs its.toList
def SqT(K:GC)(H:Hp)(a:Addr)(xs:List V):Prop:=
 Rd H a (.tup xs)\/
  ∃(o:Obj) (its:Array Value) (n:Nat),K.lookup a=some o/\o.cls=.type "tuple"/\o.data=.seq its n/\its.size<=P4/\Vals xs its.toList
noncomputable def FK:Value->Option V
 | .none=>some .non
 | .bool b=>some (.bl b)
 | .int i _=>some (.int i)
 | .str x _=>some (.str x)
 | .bytes b _=>some (.byt b)
 | .float b _=>some (.flt b)
 | .ref a=>some (.ref a)
 | .type n=>some (.ty n)
 | _=>none
theorem RelV.abs{x:V}{u:Value}(r:RelV x u):FK u=some x:=by
 cases x with
 | non=>cases r;rfl
 | bl _=>cases r;rfl
 | int _=>obtain⟨t,rfl⟩:=r;rfl
 | str _=>obtain⟨t,rfl⟩:=r;rfl
 | byt _=>obtain⟨t,rfl⟩:=r;rfl
 | flt _=>obtain⟨t,rfl⟩:=r;rfl
 | ref _=>cases r;rfl
 | ty _=>cases r;rfl
theorem RelV.inj{x y:V}{u:Value}(r:RelV x u)(q:RelV y u):x=y:=G8 (r.abs.symm.trans q.abs)
theorem Vals.inj:∀{xs ys:List V}{us:List Value},Vals xs us->Vals ys us->xs=ys
 | _,_,_,.nil,.nil=>rfl
 | _,_,_,.cons r t,.cons r' t'=>by rw[r.inj r',Vals.inj t t']
section
variable{X:Cx}{pins:List (Addr×Obj)}{σ:St}{H:Hp}{s:Shared}{a:Addr}{xs ys:List V}
theorem SqL.of{K:GC}(h:H a=some (.lst xs)):SqL K H a xs:=.inl (.inl h)
theorem SqT.of{K:GC}(h:H a=some (.tup xs)):SqT K H a xs:=.inl (.inl h)
theorem Inv.list(I:Inv X pins σ H s)(h:SqL X.K H a xs):∃its:List Value,Vals xs its/\PlainL s.heap a its.toArray/\xs.length<=P4:=by
 rcases h with h|⟨o,its,n,hk,hc,hd,hs,hz,r⟩
 ·obtain⟨z,its,n,r,e⟩:=h.ok I.hok
  exact⟨its,r,⟨_,n,e,rfl,rfl,rfl⟩,z⟩
 ·refine⟨its.toList,r,⟨o,n,I.kIn a o hk,hc,hd,by simpa using hs⟩,?_⟩
  have e:=r.length;simp only[Ii]at e;lia
theorem Inv.tuple(I:Inv X pins σ H s)(h:SqT X.K H a xs):∃its:List Value,Vals xs its/\IsTup s.heap a its.toArray/\xs.length<=P4:=by
 rcases h with h|⟨o,its,n,hk,hc,hs,hz,r⟩
 ·obtain⟨z,its,r,p⟩:=h.ok I.hok
  exact⟨its,r,p,z⟩
 ·refine⟨its.toList,r,⟨o,I.kIn a o hk,hc,n,by simpa using hs⟩,?_⟩
  have e:=r.length;simp only[Ii]at e;lia
theorem Inv.list_inj(I:Inv X pins σ H s)(h:SqL X.K H a xs)(h':SqL X.K H a ys):xs=ys:=by
 obtain⟨its,r,⟨o,n,e,_,_,d⟩,_⟩:=I.list h;obtain⟨its',r',⟨o',n',e',_,_,d'⟩,_⟩:=I.list h';rw[e]at e';cases e';rw[d]at d';injection d' with d1 _
 have:its=its':=by simpa using congrArg OA d1
 subst this;exact r.inj r'
theorem Inv.tuple_inj(I:Inv X pins σ H s)(h:SqT X.K H a xs)(h':SqT X.K H a ys):xs=ys:=by
 obtain⟨its,r,⟨o,e,_,n,d⟩,_⟩:=I.tuple h;obtain⟨its',r',⟨o',e',_,n',d'⟩,_⟩:=I.tuple h';rw[e]at e';cases e';rw[d]at d';injection d' with d1 _
 have:its=its':=by simpa using congrArg OA d1
 subst this;exact r.inj r'
end
noncomputable abbrev Cx.wish(X:Cx)(E:Value->Shared->Prop):Cx:={ X with xe:=E }
noncomputable abbrev Cx.nox(X:Cx):Cx:=X.wish λ_ _=>False
theorem Cx.Ok.wish{X:Cx}(ok:X.Ok)(E:Value->Shared->Prop):(X.wish E).Ok:=
 ⟨ok.mod,ok.kind,ok.glob,ok.blt,ok.above,ok.inj,ok.has,ok.cab,ok.hd,ok.frames,ok.stk,ok.exf,ok.bs,ok.bsz,ok.noex,ok.exfs,ok.funs,ok.frf⟩
theorem Cx.Ok.unwish{X:Cx}{E:Value->Shared->Prop}(ok:(X.wish E).Ok):X.Ok:=
 ⟨ok.mod,ok.kind,ok.glob,ok.blt,ok.above,ok.inj,ok.has,ok.cab,ok.hd,ok.frames,ok.stk,ok.exf,ok.bs,ok.bsz,ok.noex,ok.exfs,ok.funs,ok.frf⟩
section
variable{X:Cx}{pins:List (Addr×Obj)}{σ:St}{H:Hp}{s:Shared}{E:Value->Shared->Prop}
theorem Inv.wish(I:Inv X pins σ H s)(E:Value->Shared->Prop):Inv (X.wish E) pins σ H s:=⟨I.ok.wish E,I.os,I.bare,I.base,I.loc,I.cell,I.free,I.freeC,I.pin,I.hok,I.len⟩
theorem Inv.unwish(I:Inv (X.wish E) pins σ H s):Inv X pins σ H s:=⟨I.ok.unwish,I.os,I.bare,I.base,I.loc,I.cell,I.free,I.freeC,I.pin,I.hok,I.len⟩
theorem SP.unwish{D:Ends}{f:Flow}{s':Shared}(h:SP (X.wish E) pins D f s'):SP X pins D f s':=by
 cases f with
 | next=>obtain⟨σ',H',I,q⟩:=h;exact⟨σ',H',I.unwish,q⟩
 | brk=>obtain⟨σ',H',I,q⟩:=h;exact⟨σ',H',I.unwish,q⟩
 | cont=>obtain⟨σ',H',I,q⟩:=h;exact⟨σ',H',I.unwish,q⟩
 | ret u=>obtain⟨v,σ',H',I,r,q⟩:=h;exact⟨v,σ',H',I.unwish,r,q⟩
theorem PSs.nox{st:List Stmt}{t:TS}(h:PSs X.nox st t):PSs X st t:=λpins s σ H D I hw=>
 P8 (h pins s σ H D (I.wish _) hw) (λ_ _ q=>q.unwish) λ_ _ z=>IG z
end
section
variable{X:Cx}{st:Stmt}{rest:List Stmt}{t u:TS}{e:Expr}{te:TE}{pos:Pos}
def y3:TS:=λD σ H=>D.nx σ H
def DD(t u:TS):TS:=λD σ H=>t { D with nx:=u D } σ H
theorem y4:PSs X [] y3:=λ_ _ σ H _ I h=>wpAny_execs_nil ⟨σ,H,I,h⟩
theorem wg(h1:PS X st t)(h2:PSs X rest u):PSs X (st::rest) (DD t u):=by
 intro pins s σ H D I h;refine wpAny_execs_cons (thn (h1 pins s σ H { D with nx:=u D } I h) λf s1 q=>?_);cases f with
 | next=>
  obtain⟨σ',H',I',q⟩:=q;exact h2 pins s1 σ' H' D I' q
 | ret v=>exact q
 | brk=>exact q
 | cont=>exact q
theorem y7(h1:PS X st t):PSs X [st] t:=by
 intro pins s σ H D I h;refine wpAny_execs_cons (thn (h1 pins s σ H D I h) λf s1 q=>?_);cases f with
 | next=>exact wpAny_execs_nil q
 | ret v=>exact q
 | brk=>exact q
 | cont=>exact q
def y8:TS:=λD σ H=>D.ct σ H
theorem oA:PS X (.Continue pos) y8:=λ_ _ σ H _ I h=>wpAny_Continue ⟨σ,H,I,h⟩
theorem Inv.quiet{pins:List (Addr×Obj)}{σ:St}{H:Hp}{s:Shared}(I:Inv X pins σ H s):interactive X.env=false:=by simp[interactive,I.ok.kind]
def y9(te:TE):TS:=λD σ H=>te σ H λ_ H1=>D.nx σ H1
theorem za(he:PE X e te)(hs:QL e none pos.line X.env=pure false:=by rfl):PS X (.Expr e pos) (y9 te):=by
 intro pins s σ H D I h;exact wpAny_Expr_any (thn (he pins s σ H _ I h) λv s1 ⟨x,H1,I1,r1,q1⟩=>⟨σ,H1,I1,q1⟩) I.quiet hs
def DE(te:TE):TS:=λD σ H=>te σ H D.rt
theorem Bg(he:PE X e te):PS X (.Return (some e) pos) (DE te):=by
 intro pins s σ H D I h;exact wpAny_Return_some (thn (he pins s σ H _ I h) λv s1 ⟨x,H1,I1,r1,q1⟩=>⟨x,σ,H1,I1,r1,q1⟩)
def DF(c:TT)(t u:TS):TS:=λD σ H=>c σ H λb H1=>if b=true then t D σ H1 else u D σ H1
theorem DG{c:Expr}{a b:List Stmt}{tc:TT}(hc:PT X c tc)(ha:PSs X a t)(hb:PSs X b u):PS X (.If c a b pos) (DF tc t u):=by
 intro pins s σ H D I h;refine wpAny_If (thn (hc pins s σ H _ I h) λd s1 ⟨H1,I1,q1⟩=>?_);cases d with
 | true=>exact ha pins s1 σ H1 D I1 q1
 | false=>exact hb pins s1 σ H1 D I1 q1
def yf:TS:=λ_ _ _=>False
theorem wj:PS X st yf:=λ_ _ _ _ _ _ h=>h.elim
end
noncomputable abbrev TG:=V->St->Hp->(St->Hp->Prop)->Prop
noncomputable abbrev TGs:=List V->St->Hp->(St->Hp->Prop)->Prop
def PG(X:Cx)(target:Expr)(t:TG):Prop:=
 ∀(pins:List (Addr×Obj)) (s:Shared) (σ:St) (H:Hp) (v:V) (u:Value) (Q:St->Hp->Prop),Inv X pins σ H s->RelV v u->t v σ H Q->
  wpAny (model X.prog X.w) X.A (assign target X.env u) (λ_ s'=>∃σ' H',Inv X pins σ' H' s'/\Q σ' H') X.xe s
def PGs(X:Cx)(ts:List Expr)(t:TGs):Prop:=
 ∀(pins:List (Addr×Obj)) (s:Shared) (σ:St) (H:Hp) (vs:List V) (us:List Value) (Q:St->Hp->Prop),Inv X pins σ H s->Vals vs us->t vs σ H Q->
  wpAny (model X.prog X.w) X.A (assignInOrder ((Qn ts X.env).map (·.2)) us) (λ_ s'=>∃σ' H',Inv X pins σ' H' s'/\Q σ' H') X.xe s
noncomputable abbrev zb:=V->V->V->Hp->(Hp->Prop)->Prop
def DH(X:Cx)(t:zb):Prop:=
 ∀(pins:List (Addr×Obj)) (s:Shared) (σ:St) (H:Hp) (o i v:V) (ov iv u:Value) (Q:Hp->Prop),Inv X pins σ H s->RelV o ov->RelV i iv->RelV v u->t o i v H Q->
  wpAny (model X.prog X.w) X.A (setItem ov iv u) (λ_ s'=>∃H',Inv X pins σ H' s'/\Q H') X.xe s
noncomputable abbrev TIp:=V->V->Hp->VK->Prop
def PIp(X:Cx)(op:Operator)(t:TIp):Prop:=
 ∀(pins:List (Addr×Obj)) (s:Shared) (σ:St) (H:Hp) (x y:V) (v u:Value) (Q:VK),Inv X pins σ H s->RelV x v->RelV y u->t x y H Q->
  wpAny (model X.prog X.w) X.A (inplaceOp op v u) (EP X pins σ Q) X.xe s
section
variable{X:Cx}{pos:Pos}
def gB(i:Nat):TG:=λv σ H Q=>Q (σ.set i (some v)) H
theorem zc{i:Nat}{x:Str}(hN:X.N.Nodup)(hi:X.N[i]? = some x)(hx:Loc X.env.scope x)(hf:X.fn x=true\/X.env.scope.names.lookup x=some .local:=by first|exact .inl rfl|exact .inr rfl|assumption):PG X (.Name x pos) (gB i):=by
 intro pins s σ H v u Q I r h;exact wpAny_assign_Name (dW I hN hi hx r (λs' I'=>⟨_,H,I',h⟩) hf)
noncomputable def Dc:TGs:=λvs σ H Q=>vs=[]/\Q σ H
noncomputable def oB(t:TG)(u:TGs):TGs:=λvs σ H Q=>∃v r,vs=v::r/\t v σ H λσ' H'=>u r σ' H' Q
theorem zd:PGs X [] Dc:=by
 intro pins s σ H vs us Q I r h;obtain⟨e,h⟩:=h;subst e;cases r;exact assignInOrder_nil ⟨σ,H,I,h⟩
theorem wk{e:Expr}{es:List Expr}{t:TG}{u:TGs}(h1:PG X e t)(h2:PGs X es u)
  (hs:(Qn (e::es) X.env).map (·.2)=assign e X.env::(Qn es X.env).map (·.2):=by rfl):PGs X (e::es) (oB t u):=by
 intro pins s σ H vs us Q I r h;obtain⟨v,vr,e1,h⟩:=h;subst e1;cases r with
 | cons r rr=>
  rw[hs];refine assignInOrder_cons (thn (h1 pins s σ H _ _ _ I r h) λ_ s1 ⟨σ1,H1,I1,q1⟩=>?_);exact h2 pins s1 σ1 H1 _ _ Q I1 rr q1
def Dd(K:GC)(n:Nat)(t:TGs):TG:=λv σ H Q=>∃a xs,v=.ref a/\SqT K H a xs/\xs.length=n/\t xs σ H Q
theorem Bh{es:List Expr}{k:Nat}{t:TGs}{n:Nat}(hc:X.calm=true)(h:PGs X es t)
  (hn:(Qn es X.env).length=n:=by rfl) (hst:(Qn es X.env).findIdx? (·.1)=none:=by rfl):PG X (.Tuple es k pos) (Dd X.K n t):=by
 intro pins s σ H v u Q I r hw;obtain⟨a,xs,e1,hq,hl,hw⟩:=hw;subst e1;cases r;obtain⟨its,rv,ht,hz⟩:=I.tuple hq;refine assign_Tuple_tuple (I.ok.hd hc) ht (by simp[hn,<-hl,rv.length]) hst λh' hx=>?_
 have I1:Inv X pins σ H { s with heap:=h' }:=I.kept (t':=s.toks) λb o e=>hx b o (GV (GK e)) e
 exact h pins _ σ H xs _ Q I1 (by simpa using rv) hw
def DI(to ti:TE)(t:zb):TG:=λv σ H Q=>to σ H λo H1=>ti σ H1 λi H2=>t o i v H2 λH3=>Q σ H3
theorem Bi{o i:Expr}{to ti:TE}{t:zb}(ho:PE X o to)(hi:PE X i ti)(hs:DH X t)
  (ha:∀v,assign (.Subscript o i pos) X.env v=(do
   let ov <-Qo [v] (eval o X.env)
   let iv <-Qo [v,ov] (eval i X.env)
   standAt pos
   Qo [v,ov,iv] (setItem ov iv v)
   release [v,ov,iv] []):=by intro _;rfl):PG X (.Subscript o i pos) (DI to ti t):=by
 intro pins s σ H v u Q I r h;rw[ha];refine P2 (P7 (thn (ho pins s σ H _ I h) λov s1 ⟨x,H1,I1,r1,q1⟩=>?_));refine P2 (P7 (thn (hi pins s1 σ H1 _ I1 q1) λiv s2 ⟨y,H2,I2,r2,q2⟩=>?_));refine P2 (Qr (P2 (P7 (thn (hs pins s2 σ H2 x y v ov iv u _ I2 r1 r2 r q2) λ_ s3 ⟨H3,I3,q3⟩=>?_))));exact wpAny_release ⟨σ,H3,I3,q3⟩
def sr(te:TE)(g:TG):TS:=λD σ H=>te σ H λx H1=>g x σ H1 D.nx
theorem su{tg e:Expr}{te:TE}{g:TG}(he:PE X e te)(hg:PG X tg g)(hs:QN [tg] e pos.line X.env=pure false:=by rfl)(hw:QP [tg] e X.env=pure none:=by rfl)
  (h1:(Qn [tg] X.env).map (·.2)=[assign tg X.env]:=by rfl):PS X (.Assign [tg] e pos) (sr te g):=by
 intro pins s σ H D I h;refine wpAny_Assign_stores (thn (he pins s σ H _ I h) λv s1 ⟨x,H1,I1,r1,q1⟩=>?_) hs hw;rw[h1];exact thn (hg pins s1 σ H1 x v _ I1 r1 q1) λ_ s2 q=>q
theorem Bj{i:Nat}{x:Str}{e:Expr}{te:TE}{pos':Pos}(hN:X.N.Nodup)(hi:X.N[i]? = some x)(hx:Loc X.env.scope x)(he:PE X e te)(hs:QL e (some (.Name x pos')) pos.line X.env=pure false:=by rfl)(hf:X.fn x=true\/X.env.scope.names.lookup x=some .local:=by first|exact .inl rfl|exact .inr rfl|assumption):
  PS X (.Assign [.Name x pos'] e pos) (sr te (gB i)):=by
 intro pins s σ H D I h;refine wpAny_Assign_Name (thn (he pins s σ H _ I h) λv s1 ⟨y,H1,I1,r1,q1⟩=>?_) hs;exact dW I1 hN hi hx r1 (λs2 I2=>⟨_,H1,I2,q1⟩) hf
def DJ(i j:Nat)(ta:TA):TS:=λD σ H=>ta σ H λvs H1=>∃v w,vs=[v,w]/\D.nx ((σ.set i (some v)).set j (some w)) H1
theorem Bk{i j:Nat}{x y:Str}{a b:Expr}{ta:TA}{px py pt:Pos}{kt k2 pt2}(hc:X.calm=true)(hN:X.N.Nodup)(hi:X.N[i]? = some x)(hj:X.N[j]? = some y)(hij:i≠j)
  (hx:X.env.scope.names.lookup x=some .local) (hy:X.env.scope.names.lookup y=some .local) (ha:PA X [a,b] ta)
  (hw:QP [.Tuple [.Name x px,.Name y py] kt pt] (.Tuple [a,b] k2 pt2) X.env=pure (some [x,y]))
  (hs:QN [.Tuple [.Name x px,.Name y py] kt pt] (.Tuple [a,b] k2 pt2) pos.line X.env=pure false:=by rfl) :
  PS X (.Assign [.Tuple [.Name x px,.Name y py] kt pt] (.Tuple [a,b] k2 pt2) pos) (DJ i j ta):=by
 intro pins s σ H D I h;rw[exec_Assign_arm];refine P2 (Qr ?_);rw[hs];refine P2 (P3 ?_);rw[if_neg (by decide)];refine P2 (Tuple_ (thn (ha _ pins s σ H _ I h) λus s1 ⟨vs,H1,I1,r1,q1⟩=>?_));obtain⟨v,w,e1,q1⟩:=q1;subst e1;obtain⟨u1,u2,rfl,rv,rw'⟩:∃u1 u2,us=[u1,u2]/\RelV v u1/\RelV w u2:=by
  cases r1 with
  | cons p q=>
   cases q with
   | cons p' q'=>
    cases q';exact⟨_,_,rfl,p,p'⟩
 refine P5 ?_ (by show 2<=P4;decide);have I2:Inv X pins σ H1 { s1 with heap:=s1.heap.push { cls:=.type "tuple",data:=.seq [u1,u2].toArray } }:=I1.kept (t':=s1.toks) λb o e=>GD _ e
 rw[hw];refine P2 (P3 ?_);show wpAny (model X.prog X.w) X.A (do rule "assign.swapped-stores";let items <-unpackItems (.ref s1.heap.objs.size) 2 none;assignInOrder [λv=>bindName X.env y v,λv=>bindName X.env x v] items.reverse;pure Px) _ _ _
 refine P2 (wpAny_rule (P2 (unpackItems_tuple (items:=#[u1,u2]) (I.ok.hd hc) (N8 s1.heap _) λh' hx'=>?_)));have I3:=I2.kept (h':=h') (t':=s1.toks) λb o e=>hx' b o (GV (GK e)) e
 show wpAny _ _ (assignInOrder [λv=>bindName X.env y v,λv=>bindName X.env x v] [u2,u1] >>= λ_=>pure Px) _ _ _
 refine P2 (assignInOrder_cons (wpAny_bindName (dW I3 hN hj (.inl hy) rw' (λs2 I4=>?_) (.inr hy))));refine assignInOrder_cons (wpAny_bindName (dW I4 hN hi (.inl hx) rv (λs3 I5=>assignInOrder_nil (P3 ?_)) (.inr hx)));rw[List.set_comm _ _ (Hx hij)]at I5;exact⟨_,H1,I5,q1⟩
def DK(i:Nat)(te:TE)(ti:TIp):TS:=λD σ H=>∃x,σ[i]? = some (some x)/\te σ H λy H1=>ti x y H1 λz H2=>D.nx (σ.set i (some z)) H2
theorem Bl{i:Nat}{x:Str}{e:Expr}{te:TE}{op:Operator}{ti:TIp}{pos':Pos}(hN:X.N.Nodup)(hi:X.N[i]? = some x)(hx:Loc X.env.scope x)(he:PE X e te)(ho:PIp X op ti)(hf:X.fn x=true\/X.env.scope.names.lookup x=some .local:=by first|exact .inl rfl|exact .inr rfl|assumption):
  PS X (.AugAssign (.Name x pos') op e pos) (DK i te ti):=by
 intro pins s σ H D I h;obtain⟨v,e1,h⟩:=h;obtain⟨m,hn,hl⟩:=I.loc;have vis:Vis X.env.scope x:=by rcases hx with k|k;exact .inl k;exact .inr (.inl k)
 obtain⟨u,r,l⟩:=hl i x v hi e1 vis;refine wpAny_AugAssign_Name ?_;have go:wpAny (model X.prog X.w) X.A (eval e X.env) (λw s₂=>wpAny (model X.prog X.w) X.A (inplaceOp op u w) (λr s₃=>wpAny (model X.prog X.w) X.A (storeName X.env x r) (λ_=>SP X pins D .next) X.xe s₃) X.xe s₂) X.xe s:=by
  refine thn (he pins s σ H _ I h) λw s1 ⟨y,H1,I1,r1,q1⟩=>?_
  refine thn (ho pins s1 σ H1 v y u w _ I1 r r1 q1) λz s2 ⟨zv,H2,I2,r2,q2⟩=>?_
  exact dW I2 hN hi hx r2 (λs3 I3=>⟨_,H2,I3,q2⟩) hf
 rcases l with⟨hk,hm⟩|⟨hk,c,hc,hcell⟩
 ·exact wpAny_loadName_local I.ok.kind hk hn hm go
 ·rcases hk with hk|hk
  ·exact wpAny_loadName_cell I.ok.kind hk hc hcell go
  ·rcases hx with k|k
   ·have:X.env.scope.names.lookup x=some .free:=hk
    rw[k]at this;cases this
   ·have:X.env.scope.names.lookup x=some .free:=hk
    rw[k]at this;cases this
def wm(to ti te:TE)(tget:V->V->Hp->VK->Prop)(tip:TIp)(tset:zb):TS:=λD σ H=>to σ H λo H1=>ti σ H1 λi H2=>tget o i H2 λx H3=>te σ H3 λy H4=>tip x y H4 λz H5=>tset o i z H5 λH6=>D.nx σ H6
def DL(X:Cx)(t:V->V->Hp->VK->Prop):Prop:=
 ∀(pins:List (Addr×Obj)) (s:Shared) (σ:St) (H:Hp) (o i:V) (ov iv:Value) (Q:VK),Inv X pins σ H s->RelV o ov->RelV i iv->t o i H Q->
  wpAny (model X.prog X.w) X.A (getItem ov iv) (EP X pins σ Q) X.xe s
theorem sv{o i e:Expr}{to ti te:TE}{tget:V->V->Hp->VK->Prop}{tip:TIp}{tset:zb}{op:Operator}{tpos:Pos}(ho:PE X o to)(hi:PE X i ti)(hg:DL X tget)(he:PE X e te)(hp:PIp X op tip)(hs:DH X tset)
  (ha:∀ov iv new,augStore i ov iv new=(do Qo [new,ov,iv] (setItem ov iv new);release [new,ov,iv] [];pure .next):=by intros;rfl):PS X (.AugAssign (.Subscript o i tpos) op e pos) (wm to ti te tget tip tset):=by
 intro pins s σ H D I h;refine wpAny_AugAssign_SubscriptAny (thn (ho pins s σ H _ I h) λov s1 ⟨x1,H1,I1,r1,q1⟩=>?_) ha;refine thn (hi pins s1 σ H1 _ I1 q1) λiv s2 ⟨x2,H2,I2,r2,q2⟩=>?_
 refine thn (hg pins s2 σ H2 x1 x2 ov iv _ I2 r1 r2 q2) λold s3 ⟨x3,H3,I3,r3,q3⟩=>?_
 refine thn (he pins s3 σ H3 _ I3 q3) λv s4 ⟨x4,H4,I4,r4,q4⟩=>?_
 refine thn (hp pins s4 σ H4 x3 x4 old v _ I4 r3 r4 q4) λnew s5 ⟨x5,H5,I5,r5,q5⟩=>?_
 exact thn (hs pins s5 σ H5 x1 x2 x5 ov iv new _ I5 r1 r2 r5 q5) λ_ s6 ⟨H6,I6,q6⟩=>⟨σ,H6,I6,q6⟩
noncomputable def ipI(f:Int->Int->Int):TIp:=λx y H Q=>∃i j,x=.int i/\y=.int j/\Q (.int (f i j)) H
theorem yg:PIp X .Add (ipI λi j=>i+j):=by
 intro pins s σ H x y v u Q I r1 r2 h;obtain⟨i,j,e1,e2,q⟩:=h;subst e1;subst e2;obtain⟨t,rfl⟩:=r1;obtain⟨t',rfl⟩:=r2;exact iadd_int ⟨.int _,H,I.tok _,⟨_,rfl⟩,q⟩
end
section
variable{X:Cx}{pos:Pos}
def yh(c:TT)(tb:TS):TS:=λD σ H=>∃W:Nat->St->Hp->Prop,(∃m,W m σ H)/\∀m σ H,W m σ H->
 c σ H λb H1=>if b=true then ∃N:St->Hp->Prop,(∀σ' H',N σ' H'->∃m',m'<m/\W m' σ' H')/\tb { D with nx:=N,ct:=N,bk:=D.nx } σ H1 else D.nx σ H1
theorem wn{c:Expr}{body:List Stmt}{tc:TT}{tb:TS}(hp:PassesOwn (model X.prog X.w) X.A X.env X.xe)(hc:PT X c tc)(hb:PSs X body tb):PS X (.While c body [] pos) (yh tc tb):=by
 intro pins s σ H D I h;obtain⟨W,⟨m0,w0⟩,turn⟩:=h;refine wpAny_While (codeAny_whileLoop (λn s'=>∃σ' H',Inv X pins σ' H' s'/\W n σ' H') ?_ m0 ⟨σ,H,I,w0⟩);rintro n s1 ⟨σ1,H1,I1,w1⟩;refine Qx hp (thn (hc pins s1 σ1 H1 _ I1 (turn n σ1 H1 w1)) λb s2 ⟨H2,I2,q2⟩=>?_);cases b with
 | true=>
  obtain⟨N,hN,q2⟩:=q2;rw[if_pos rfl];refine Qx hp (thn (hb pins s2 σ1 H2 _ I2 q2) λf s3 q3=>?_);cases f with
  | next=>
   obtain⟨σ3,H3,I3,n3⟩:=q3;obtain⟨m',hm,w3⟩:=hN σ3 H3 n3;exact⟨m',hm,σ3,H3,I3,w3⟩
  | cont=>
   obtain⟨σ3,H3,I3,n3⟩:=q3;obtain⟨m',hm,w3⟩:=hN σ3 H3 n3;exact⟨m',hm,σ3,H3,I3,w3⟩
  | brk=>exact q3
  | ret v=>exact q3
 | false=>
  rw[if_neg G3];exact wpAny_execs_nil ⟨σ1,H2,I2,q2⟩
end
structure It where
 go:Nat->Hp->Prop
 yld:Nat->Hp->V->Hp->Prop
 stop:Nat->Hp->Prop
def oD(X:Cx)(pins:List (Addr×Obj))(H:Hp)(b:Addr):Prop:=
 H b=none/\b≠X.env.locals/\b∉X.fs/\(b∈X.ex\/X.s₀.heap.objs.size<=b)/\(∀x c,X.env.cells.lookup x=some c->c≠b)/\∀p∈X.pn++pins,p.1≠b
theorem Inv.fpOk{X:Cx}{pins:List (Addr×Obj)}{σ:St}{H H':Hp}{s:Shared}{b:Addr}(I:Inv X pins σ H s)(hb:s.heap.objs.size<=b)(hn:H' b=none):oD X pins H' b:=by
 refine⟨hn,Ho (G0 I.lt hb),I.nofs hb,.inr (HJ I.sz hb),λx c e z=>?_,λp hp z=>?_⟩
 ·obtain⟨v,q⟩:=I.cell x c e
  exact absurd (G0 q.lt (by rw[z];exact hb)) (Hw _)
 ·exact absurd (G0 (GK (I.pin p hp).1) (by rw[z];exact hb)) (Hw _)
structure Turn (P:Program) (w:World) (K:GC) (tg:Expr) (J:It) (fp:List Addr) (it:Addr) (tn:Nat->Heap->Prop):Prop where
 mem:it∈fp
 obj:∀i h,tn i h->∀b∈fp,∃o,h.get? b=some o/\∀v,o.data≠.cell v
 keep:∀i h h',tn i h->(∀b∈fp,∀o,h.get? b=some o->h'.get? b=some o)->tn i h'
 item:∀(X:Cx),X.prog=P->X.w=w->X.K=K->X.calm=true->∀(i:Nat) (pins:List (Addr×Obj)) (s:Shared) (σ:St) (H:Hp) (E:Value->Shared->Prop),Inv X pins σ H s->(∀b∈fp,oD X pins H b)->tn i s.heap->J.go i H->
  wpAny (model P w) X.A (pyNext (.ref it)) (λr s1=>∃u,r=some u/\
   wpAny (model P w) X.A (letOwnedTupleGo tg (.ref it) u) (λ_ s2=>∃x H',Inv X pins σ H' s2/\RelV x u/\J.yld i H x H'/\tn (i+1) s2.heap/\∀b∈fp,H' b=none) E s1) E s
 done:∀(X:Cx),X.prog=P->X.w=w->X.K=K->X.calm=true->∀(i:Nat) (pins:List (Addr×Obj)) (s:Shared) (σ:St) (H:Hp) (E:Value->Shared->Prop),Inv X pins σ H s->(∀b∈fp,oD X pins H b)->tn i s.heap->J.stop i H->
  wpAny (model P w) X.A (pyNext (.ref it)) (λr s1=>r=none/\Inv X pins σ H s1) E s
 self:∀(A:Around) (i:Nat) (s:Shared) (Q:Value->Shared->Prop) (E:Value->Shared->Prop),tn i s.heap->Q (.ref it) s->wpAny (model P w) A (pyIter (.ref it)) Q E s
noncomputable abbrev TI:=St->Hp->(It->Hp->Prop)->Prop
def PIE(X:Cx)(pins:List (Addr×Obj))(σ:St)(tg:Expr)(R:It->Hp->Prop)(itv:Value)(s2:Shared):Prop:=
 ∃(it:Addr) (fp:List Addr) (tn:Nat->Heap->Prop) (J:It) (H':Hp),itv=.ref it/\Inv X pins σ H' s2/\Turn X.prog X.w X.K tg J fp it tn/\tn 0 s2.heap/\(∀b∈fp,oD X pins H' b)/\R J H'
def PI(X:Cx)(tg iter:Expr)(wi:TI):Prop:=
 ∀(pins:List (Addr×Obj)) (s:Shared) (σ:St) (H:Hp) (R:It->Hp->Prop),Inv X pins σ H s->wi σ H R->
  wpAny (model X.prog X.w) X.A (eval iter X.env) (λv s1=>wpAny (model X.prog X.w) X.A (pyIter v) (PIE X pins σ tg R) X.xe s1) X.xe s
theorem qU{M:Model}{A:Around}{E:Value->Shared->Prop}{s:Shared}{tg:Expr}{it:Addr}{u:Value}{o:Obj}{n:String}{vs:Array Value}{Q:Unit->Shared->Prop}(ho:s.heap.get? it=some o)(hc:o.cls=.type n)(hd:o.data=.fields vs)
    (hn:["enumerate","zip","dict_itemiterator","dict_reverseitemiterator","odict_iterator","itertools.zip_longest","itertools.pairwise"].contains n=false) (hQ:Q () s):wpAny M A (letOwnedTupleGo tg (.ref it) u) Q E s:=by
  unfold letOwnedTupleGo;cases tg<;>first
    | exact P3 hQ
    | (cases u<;>first
        | exact P3 hQ
        | (refine P2 (wpAny_load ho ?_)
           rw[hc,hd];show wpAny M A (if(["enumerate","zip","dict_itemiterator","dict_reverseitemiterator","odict_iterator","itertools.zip_longest","itertools.pairwise"].contains n && vs[0]? == some (Qp _))=true then _ else _) Q E s
           rw[if_neg (by intro h;rw[hn,Bool.false_and]at h;cases h)];exact P3 hQ))
def Itl(K:GC)(a:Addr):It:=
 ⟨λi H=>∃xs x,SqL K H a xs/\xs[i]? = some x,λi H x H'=>H'=H/\∀xs,SqL K H a xs->xs[i]? = some x,λi H=>∃xs,SqL K H a xs/\xs.length<=i⟩
def Itt(K:GC)(a:Addr):It:=
 ⟨λi H=>∃xs x,SqT K H a xs/\xs[i]? = some x,λi H x H'=>H'=H/\∀xs,SqT K H a xs->xs[i]? = some x,λi H=>∃xs,SqT K H a xs/\xs.length<=i⟩
def Itr(lo:Int)(n:Nat):It:=⟨λi _=>i<n,λi H x H'=>H'=H/\x=.int (lo+i),λi _=>n<=i⟩
theorem sH{P:Program}{w:World}{K:GC}{tg:Expr}(a it:Addr):Turn P w K tg (Itl K a) [it] it (λi h=>h.IsListIter it a i) where
 mem:=by simp
 obj:=λi h st b hb=>by
  have e:b=it:=by simpa using hb
  subst e;obtain⟨o,e,c,d⟩:=st;exact⟨o,e,λv z=>by rw[d]at z;cases z⟩
 keep:=λi h h' st k=>st.at λo e=>k it (by simp) o e
 item:=by
  intro X hP hw hK hc i pins s σ H E I hf st hg;subst hP hw hK;obtain⟨xs,x,hq,hx⟩:=hg;obtain⟨its,rv,p,hz⟩:=I.list hq;obtain⟨u,hu,ru⟩:=rv.get hx;obtain⟨f0,f1,f2,f3,f4,f5⟩:=hf it (by simp);refine wpAny_pyNext_list_item st p.isList (x:=u) (by simpa using hu) λh' st' sb=>?_
  have I1:Inv X pins σ H { s with heap:=h' }:=I.turned (t':=s.toks) (λb o hb e=>(sb.2 b hb).trans e) f0 f1 f3 f4 f5;obtain⟨o,e,c,d⟩:=id st';exact⟨u,rfl,qU (s:={ s with heap:=h' }) e c d (by decide) ⟨x,H,I1,ru,⟨rfl,λys hy=>by rw[I.list_inj hy hq];exact hx⟩,st',λb hb=>(hf b hb).1⟩⟩
 done:=by
  intro X hP hw hK hc i pins s σ H E I hf st hg;subst hP hw hK;obtain⟨xs,hq,hx⟩:=hg;obtain⟨its,rv,p,hz⟩:=I.list hq;obtain⟨f0,f1,f2,f3,f4,f5⟩:=hf it (by simp);have hl:=rv.length;exact wpAny_pyNext_list_end (I.ok.hd hc) st p.isList (by simp;lia) λh' eb=>⟨rfl,I.turned (t':=s.toks) (λb o hb e=>eb b o hb e) f0 f1 f3 f4 f5⟩
 self:=λ_ _ _ _ _ st h=>wpAny_pyIter_listiter st h
theorem qV{P:Program}{w:World}{K:GC}{tg:Expr}(a it:Addr):Turn P w K tg (Itt K a) [it] it (λi h=>h.IsTupleIter it a i) where
 mem:=by simp
 obj:=λi h st b hb=>by
  have e:b=it:=by simpa using hb
  subst e;obtain⟨o,e,c,d⟩:=st;exact⟨o,e,λv z=>by rw[d]at z;cases z⟩
 keep:=λi h h' st k=>st.at λo e=>k it (by simp) o e
 item:=by
  intro X hP hw hK hc i pins s σ H E I hf st hg;subst hP hw hK;obtain⟨xs,x,hq,hx⟩:=hg;obtain⟨its,rv,p,hz⟩:=I.tuple hq;obtain⟨u,hu,ru⟩:=rv.get hx;obtain⟨f0,f1,f2,f3,f4,f5⟩:=hf it (by simp);refine wpAny_pyNext_tuple_item st (show s.heap.IsTuple a its.toArray from p) (x:=u) (by simpa using hu) λh' st' sb=>?_
  have I1:Inv X pins σ H { s with heap:=h' }:=I.turned (t':=s.toks) (λb o hb e=>(sb.2 b hb).trans e) f0 f1 f3 f4 f5;obtain⟨o,e,c,d⟩:=id st';exact⟨u,rfl,qU (s:={ s with heap:=h' }) e c d (by decide) ⟨x,H,I1,ru,⟨rfl,λys hy=>by rw[I.tuple_inj hy hq];exact hx⟩,st',λb hb=>(hf b hb).1⟩⟩
 done:=by
  intro X hP hw hK hc i pins s σ H E I hf st hg;subst hP hw hK;obtain⟨xs,hq,hx⟩:=hg;obtain⟨its,rv,p,hz⟩:=I.tuple hq;obtain⟨f0,f1,f2,f3,f4,f5⟩:=hf it (by simp);have hl:=rv.length;exact wpAny_pyNext_tuple_end (I.ok.hd hc) st (show s.heap.IsTuple a its.toArray from p) (by simp;lia) λh' eb=>⟨rfl,I.turned (t':=s.toks) (λb o hb e=>eb b o hb e) f0 f1 f3 f4 f5⟩
 self:=λ_ _ _ _ _ st h=>wpAny_pyIter_tupleiter st h
theorem qW{P:Program}{w:World}{K:GC}{tg:Expr}(it:Addr)(lo:Int)(n:Nat):Turn P w K tg (Itr lo n) [it] it (λi h=>IsRangeIter h it (lo+(i:Nat)*1) ((n:Int) - (i:Nat)) 1) where
 mem:=by simp
 obj:=λi h st b hb=>by
  have e:b=it:=by simpa using hb
  subst e;exact⟨_,st,λv z=>by
   have z':Nw _=N9 v:=z;cases z'⟩
 keep:=λi h h' st k=>k it (by simp) _ st
 item:=by
  intro X hP hw hK hc i pins s σ H E I hf st hg;subst hP hw hK;obtain⟨f0,f1,f2,f3,f4,f5⟩:=hf it (by simp);have W:=Ny (prog:=X.prog) (w:=X.w) (I.ok.hd hc) it lo 1 n;refine W.item i s _ _ hg st λv h' tk hv st' kk=>?_
  obtain⟨t,rfl⟩:=hv;have I1:Inv X pins σ H { s with heap:=h',toks:=tk }:=I.turned (λb o hb e=>kk b o (by simpa using hb) e) f0 f1 f3 f4 f5;refine⟨_,rfl,qU (s:={ s with heap:=h',toks:=tk }) (n:="range_iterator") st' rfl rfl (by decide) ⟨.int (lo+i),H,I1,⟨t,?_⟩,⟨rfl,rfl⟩,st',λb hb=>(hf b hb).1⟩⟩;rw[Nz]
 done:=by
  intro X hP hw hK hc i pins s σ H E I hf st hg;subst hP hw hK;obtain⟨f0,f1,f2,f3,f4,f5⟩:=hf it (by simp);exact wpAny_pyNext_range_end (I.ok.hd hc) st (by have:n<=i:=hg;lia) λh' eb=>⟨rfl,I.turned (t':=s.toks) (λb o hb e=>eb b o hb e) f0 f1 f3 f4 f5⟩
 self:=λ_ _ _ _ _ st h=>wpAny_pyIter_rangeiter st h
section
variable{X:Cx}{tg:Expr}
def ze(K:GC)(tl:TE):TI:=λσ H R=>tl σ H λx H1=>∃a,x=.ref a/\(∃xs,SqL K H1 a xs)/\R (Itl K a) H1
def DM(K:GC)(tl:TE):TI:=λσ H R=>tl σ H λx H1=>∃a,x=.ref a/\(∃xs,SqT K H1 a xs)/\R (Itt K a) H1
theorem zf{l:Expr}{tl:TE}(hl:PE X l tl):PI X tg l (ze X.K tl):=by
 intro pins s σ H R I h;refine thn (hl pins s σ H _ I h) λv s1 ⟨x,H1,I1,r1,q1⟩=>?_
 obtain⟨a,e,⟨xs,hq⟩,q⟩:=q1;subst e;cases r1;obtain⟨its,rv,p,hz⟩:=I1.list hq;refine wpAny_pyIter_list p.isList ?_;refine⟨s1.heap.objs.size,[s1.heap.objs.size],_,_,H1,rfl,I1.kept (t':=s1.toks) λb o e=>GD _ e,sH a _,⟨_,GT _ rfl,rfl,rfl⟩,λb hb=>?_,q⟩;have e:b=s1.heap.objs.size:=by simpa using hb
 subst e;exact I1.fpOk (GF _) (I1.hok.fresh (GF _))
theorem Bm{l:Expr}{tl:TE}(hl:PE X l tl):PI X tg l (DM X.K tl):=by
 intro pins s σ H R I h;refine thn (hl pins s σ H _ I h) λv s1 ⟨x,H1,I1,r1,q1⟩=>?_
 obtain⟨a,e,⟨xs,hq⟩,q⟩:=q1;subst e;cases r1;obtain⟨its,rv,p,hz⟩:=I1.tuple hq;refine wpAny_pyIter_tuple (show s1.heap.IsTuple a its.toArray from p) ?_;refine⟨s1.heap.objs.size,[s1.heap.objs.size],_,_,H1,rfl,I1.kept (t':=s1.toks) λb o e=>GD _ e,qV a _,⟨_,GT _ rfl,rfl,rfl⟩,λb hb=>?_,q⟩;have e:b=s1.heap.objs.size:=by simpa using hb
 subst e;exact I1.fpOk (GF _) (I1.hok.fresh (GF _))
theorem wo{pins:List (Addr×Obj)}{σ:St}{H:Hp}{s:Shared}{R:It->Hp->Prop}{E:Value->Shared->Prop}{lo hi:Int}{t u v:Tok}{tk:Nat}(I:Inv X pins σ H s)(h1:-(2 ^ 62)<=lo)(h2:lo<2 ^ 62)(h3:-(2 ^ 62)<=hi)(h4:hi<2 ^ 62)
  (q:R (Itr lo (hi - lo).toNat) H):wpAny (model X.prog X.w) X.A (pyIter (.ref s.heap.objs.size)) (PIE X pins σ tg R) E { s with heap:=s.heap.push { cls:=.type "range",data:=.fields #[.int lo t,.int hi u,.int 1 v] },toks:=tk }:=by
 refine wpAny_pyIter_range (Mr ..) (small_one h1 h2 h3 h4) ?_;have I1:Inv X pins σ H { s with heap:=s.heap.push { cls:=.type "range",data:=.fields #[.int lo t,.int hi u,.int 1 v] },toks:=tk }:=I.kept λb o e=>GD _ e
 refine⟨(s.heap.push { cls:=.type "range",data:=.fields #[.int lo t,.int hi u,.int 1 v] }).objs.size,[(s.heap.push { cls:=.type "range",data:=.fields #[.int lo t,.int hi u,.int 1 v] }).objs.size],_,_,H,rfl,
  I1.kept (t':=tk) λb o e=>GD _ e,qW _ lo (hi - lo).toNat,?_,λb hb=>?_,q⟩
 ·have e1:lo+((0:Nat):Int)*1=lo:=by simp
  have e2:(((hi - lo).toNat:Nat):Int) - ((0:Nat):Int)=Ia lo hi 1:=by rw[rangeSize_one];split<;>lia
  show IsRangeIter _ _ (lo+((0:Nat):Int)*1) ((((hi - lo).toNat:Nat):Int) - ((0:Nat):Int)) 1
  rw[e1,e2];exact GT _ rfl
 ·have e:b=(s.heap.push { cls:=.type "range",data:=.fields #[.int lo t,.int hi u,.int 1 v] }).objs.size:=by simpa using hb
  subst e;exact I1.fpOk (GF _) (I1.hok.fresh (GF _))
def zg(ta:TA):TI:=λσ H R=>ta σ H λvs H1=>∃j:Int,vs=[.int j]/\-(2 ^ 62)<=j/\j<2 ^ 62/\R (Itr 0 j.toNat) H1
theorem sI {a:Expr}{ta:TA}{p pos:Pos}(hg:Gl X "range") (hm:X.mg "range" = none) (ha:PA X [a] ta) (hs:starEach [a] X.env=[(false,eval a X.env)]:=by rfl):PI X tg (.Call (.Name "range" p) [a] [] pos) (zg ta):=by
 intro pins s σ H R I h;refine Call_ (dh I hg hm boot_range (Hz (thn (ha pos pins s σ H _ I h) λus s1 ⟨vs,H1,I1,r1,q1⟩=>?_) hs rfl));obtain⟨j,e,q1,q2,q⟩:=q1;subst e;cases r1 with
 | cons r rr=>
  cases rr;obtain⟨t,rfl⟩:=r;exact call_range_1 (wo I1 ⋯ ⋯ q1 q2 (by simpa using q))
def DN(wi:TI)(g:TG)(tb:TS):TS:=λD σ H=>wi σ H λJ H1=>∃W:Nat->Nat->St->Hp->Prop,(∃m,W 0 m σ H1)/\∀i m σ H,W i m σ H->
 (J.stop i H/\D.nx σ H)\/(J.go i H/\∃N:St->Hp->Prop,(∀σ' H',N σ' H'->∃m',m'<m/\W (i+1) m' σ' H')/\∀x H',J.yld i H x H'->g x σ H' λσ2 H2=>tb { D with nx:=N,ct:=N,bk:=D.nx } σ2 H2)
noncomputable def pU(fp:List Addr)(h:Heap):List (Addr×Obj):=fp.filterMap λb=>(h.get? b).map λo=>(b,o)
theorem aM{fp:List Addr}{h:Heap}{b:Addr}{o:Obj}(hb:b∈fp)(e:h.get? b=some o):(b,o)∈pU fp h:=M9.mpr ⟨b,hb,by rw[e];rfl⟩
theorem sJ{fp:List Addr}{h:Heap}{p:Addr×Obj}(hp:p∈pU fp h):p.1∈fp/\h.get? p.1=some p.2:=by
 obtain⟨b,hb,e⟩:=M9.mp hp;cases q:h.get? b with
 | none=>rw[q]at e;cases e
 | some o=>
  rw[q]at e;have e':(b,o)=p:=G8 e;subst e';exact⟨hb,q⟩
theorem Inv.pinned{pins:List (Addr×Obj)}{σ:St}{H:Hp}{s:Shared}{fp:List Addr}(I:Inv X pins σ H s)(hf:∀b∈fp,oD X pins H b)(ho:∀b∈fp,∃o,s.heap.get? b=some o/\∀v,o.data≠.cell v):Inv X (pins++pU fp s.heap) σ H s:=
 I.pins_of λp hp=>(G9.mp hp).elim (λz=>I.pin p (GG _ z)) λz=>by
  obtain⟨hb,e⟩:=sJ z;obtain⟨f0,f1,f2,_⟩:=hf p.1 hb;obtain⟨o,e',d⟩:=ho p.1 hb;rw[e]at e';cases e';exact⟨e,f0,f1,f2,d⟩
theorem Inv.unpinned{pins pl:List (Addr×Obj)}{σ:St}{H:Hp}{s:Shared}(I:Inv X (pins++pl) σ H s):Inv X pins σ H s:=I.pins_of λp hp=>I.pin p (GG _ (HL _ hp))
theorem Bo{iter:Expr}{body:List Stmt}{wi:TI}{g:TG}{tb:TS}{pos:Pos}(hp:PassesOwn (model X.prog X.w) X.A X.env X.xe)(hc:X.calm=true)(hi:PI X tg iter wi)(hg:PG X tg g)(hb:PSs X body tb)
  (hs:∀x,Qa iter X.env x=pure x:=by intro _;rfl):PS X (.For tg iter body [] pos) (DN wi g tb):=by
 intro pins s σ H D I h;refine wpAny_For (thn (hi pins s σ H _ I h) λv s1 h1=>thn h1 λitv s2 h2=>?_) hs;obtain⟨it,fp,tn,J,H2,e,I2,T,st2,f2,W,⟨m0,w0⟩,turn⟩:=h2;subst e
 -- what stays true of the iterator's objects through the loop
 have stat:∀{H':Hp},(∀b∈fp,H' b=none)->∀b∈fp,oD X pins H' b:=λhn b hb=>⟨hn b hb,(f2 b hb).2⟩
 refine codeAny_forLoop_any (λn s'=>∃i σ' H',Inv X pins σ' H' s'/\tn i s'.heap/\(∀b∈fp,H' b=none)/\W i n σ' H') ?_ m0 ⟨0,σ,H2,I2,st2,λb hb=>(f2 b hb).1,w0⟩;rintro n s3 ⟨i,σ3,H3,I3,st3,fr3,w3⟩;rcases turn i n σ3 H3 w3 with⟨stop,qn⟩|⟨go,N,hN,step⟩
 ·refine Qx hp (thn (T.done X rfl rfl rfl hc i pins s3 σ3 H3 X.xe I3 (stat fr3) st3 stop) λr s4 ⟨hr,I4⟩=>?_)
  subst hr;exact wpAny_execs_nil ⟨σ3,H3,I4,qn⟩
 ·refine Qx hp (thn (T.item X rfl rfl rfl hc i pins s3 σ3 H3 X.xe I3 (stat fr3) st3 go) λr s4 ⟨u,hr,h4⟩=>?_)
  subst hr;refine Qx hp (thn h4 λ_ s5 ⟨x,H5,I5,r5,y5,st5,fr5⟩=>?_);have I5':=I5.pinned (stat fr5) (T.obj _ _ st5);refine Qx hp (thn (hg _ s5 σ3 H5 x u _ I5' r5 (step x H5 y5)) λ_ s6 ⟨σ6,H6,I6,q6⟩=>?_);refine Qx hp (thn (hb _ s6 σ6 H6 _ I6 q6) λf s7 q7=>?_);have again:∀{σ7:St}{H7:Hp},Inv X (pins++pU fp s5.heap) σ7 H7 s7->N σ7 H7->∃m,m<n/\∃i σ' H',Inv X pins σ' H' s7/\tn i s7.heap/\(∀b∈fp,H' b=none)/\W i m σ' H':=λ{σ7 H7} I7 n7=>by
   obtain⟨m',hm,w7⟩:=hN σ7 H7 n7;refine⟨m',hm,i+1,σ7,H7,I7.unpinned,T.keep _ _ _ st5 λb hb o e=>(I7.pin (b,o) (GG _ (GG _ (aM hb e)))).1,λb hb=>?_,w7⟩;obtain⟨o,e,d⟩:=T.obj _ _ st5 b hb;exact(I7.pin (b,o) (GG _ (GG _ (aM hb e)))).2.1
  cases f with
  | next=>obtain⟨σ7,H7,I7,n7⟩:=q7;exact again I7 n7
  | cont=>obtain⟨σ7,H7,I7,n7⟩:=q7;exact again I7 n7
  | brk=>obtain⟨σ7,H7,I7,q7⟩:=q7;exact⟨σ7,H7,I7.unpinned,q7⟩
  | ret v=>obtain⟨x7,σ7,H7,I7,r7,q7⟩:=q7;exact⟨x7,σ7,H7,I7.unpinned,r7,q7⟩
end
theorem cI{K:GC}{a:Addr}{xs:List V}{g:TG}{tb:TS}{D:Ends}{σ:St}{H:Hp}(Pv:Nat->St->Hp->Prop)(h0:Pv 0 σ H)(hl:∀i σ H,i<=xs.length->Pv i σ H->SqL K H a xs)
  (hs:∀i x σ H,xs[i]? = some x->Pv i σ H->g x σ H λσ2 H2=>tb { D with nx:=Pv (i+1),ct:=Pv (i+1),bk:=D.nx } σ2 H2) (hd:∀σ H,Pv xs.length σ H->D.nx σ H) :
  ∃W:Nat->Nat->St->Hp->Prop,(∃m,W 0 m σ H)/\∀i m σ H,W i m σ H->
   ((Itl K a).stop i H/\D.nx σ H)\/((Itl K a).go i H/\∃N:St->Hp->Prop,(∀σ' H',N σ' H'->∃m',m'<m/\W (i+1) m' σ' H')/\∀x H',(Itl K a).yld i H x H'->g x σ H' λσ2 H2=>tb { D with nx:=N,ct:=N,bk:=D.nx } σ2 H2):=by
 refine⟨λi m σ H=>m=xs.length - i/\i<=xs.length/\Pv i σ H,⟨xs.length,by simp,GR _,h0⟩,?_⟩;rintro i m σ H ⟨rfl,hi,p⟩;have q:=hl i σ H hi p;by_cases hlt:i<xs.length
 ·refine .inr ⟨⟨xs,xs[i],q,by simp[hlt]⟩,Pv (i+1),λσ' H' p'=>⟨xs.length - (i+1),by lia,rfl,hlt,p'⟩,λx H' y=>?_⟩
  obtain⟨e,y⟩:=y;subst e;exact hs i x σ _ (y xs q) p
 ·have e:i=xs.length:=by lia
  subst e;exact .inl ⟨⟨xs,q,GF _⟩,hd σ H p⟩
theorem oE{K:GC}{a:Addr}{xs:List V}{g:TG}{tb:TS}{D:Ends}{σ:St}{H:Hp}(Pv:Nat->St->Hp->Prop)(h0:Pv 0 σ H)(hl:∀i σ H,i<=xs.length->Pv i σ H->SqT K H a xs)
  (hs:∀i x σ H,xs[i]? = some x->Pv i σ H->g x σ H λσ2 H2=>tb { D with nx:=Pv (i+1),ct:=Pv (i+1),bk:=D.nx } σ2 H2) (hd:∀σ H,Pv xs.length σ H->D.nx σ H) :
  ∃W:Nat->Nat->St->Hp->Prop,(∃m,W 0 m σ H)/\∀i m σ H,W i m σ H->
   ((Itt K a).stop i H/\D.nx σ H)\/((Itt K a).go i H/\∃N:St->Hp->Prop,(∀σ' H',N σ' H'->∃m',m'<m/\W (i+1) m' σ' H')/\∀x H',(Itt K a).yld i H x H'->g x σ H' λσ2 H2=>tb { D with nx:=N,ct:=N,bk:=D.nx } σ2 H2):=by
 refine⟨λi m σ H=>m=xs.length - i/\i<=xs.length/\Pv i σ H,⟨xs.length,by simp,GR _,h0⟩,?_⟩;rintro i m σ H ⟨rfl,hi,p⟩;have q:=hl i σ H hi p;by_cases hlt:i<xs.length
 ·refine .inr ⟨⟨xs,xs[i],q,by simp[hlt]⟩,Pv (i+1),λσ' H' p'=>⟨xs.length - (i+1),by lia,rfl,hlt,p'⟩,λx H' y=>?_⟩
  obtain⟨e,y⟩:=y;subst e;exact hs i x σ _ (y xs q) p
 ·have e:i=xs.length:=by lia
  subst e;exact .inl ⟨⟨xs,q,GF _⟩,hd σ H p⟩
theorem dG{lo:Int}{n:Nat}{g:TG}{tb:TS}{D:Ends}{σ:St}{H:Hp}(Pv:Nat->St->Hp->Prop)(h0:Pv 0 σ H)
  (hs:∀i σ H,i<n->Pv i σ H->g (.int (lo+i)) σ H λσ2 H2=>tb { D with nx:=Pv (i+1),ct:=Pv (i+1),bk:=D.nx } σ2 H2) (hd:∀σ H,Pv n σ H->D.nx σ H) :
  ∃W:Nat->Nat->St->Hp->Prop,(∃m,W 0 m σ H)/\∀i m σ H,W i m σ H->
   ((Itr lo n).stop i H/\D.nx σ H)\/((Itr lo n).go i H/\∃N:St->Hp->Prop,(∀σ' H',N σ' H'->∃m',m'<m/\W (i+1) m' σ' H')/\∀x H',(Itr lo n).yld i H x H'->g x σ H' λσ2 H2=>tb { D with nx:=N,ct:=N,bk:=D.nx } σ2 H2):=by
 refine⟨λi m σ H=>m=n - i/\i<=n/\Pv i σ H,⟨n,by simp,GR _,h0⟩,?_⟩;rintro i m σ H ⟨rfl,hi,p⟩;by_cases hlt:i<n
 ·refine .inr ⟨hlt,Pv (i+1),λσ' H' p'=>⟨n - (i+1),by lia,rfl,hlt,p'⟩,λx H' y=>?_⟩
  obtain⟨e,y⟩:=y;subst e y;exact hs i σ _ hlt p
 ·have e:i=n:=by lia
  subst e;exact .inl ⟨GF _,hd σ H p⟩
noncomputable abbrev R2:=V->V->Hp->VK->Prop
def OpR(X:Cx)(f:Value->Value->Sem Value)(r:R2):Prop:=
 ∀(pins:List (Addr×Obj)) (s:Shared) (σ:St) (H:Hp) (x y:V) (v u:Value) (Q:VK),Inv X pins σ H s->RelV x v->RelV y u->r x y H Q->
  wpAny (model X.prog X.w) X.A (f v u) (EP X pins σ Q) X.xe s
def UnR(X:Cx)(f:Value->Sem Value)(r:V->Hp->VK->Prop):Prop:=
 ∀(pins:List (Addr×Obj)) (s:Shared) (σ:St) (H:Hp) (x:V) (v:Value) (Q:VK),Inv X pins σ H s->RelV x v->r x H Q->
  wpAny (model X.prog X.w) X.A (f v) (EP X pins σ Q) X.xe s
def cx(X:Cx)(f:Value)(r:List V->Hp->VK->Prop):Prop:=
 ∀(pins:List (Addr×Obj)) (s:Shared) (σ:St) (H:Hp) (xs:List V) (us:List Value) (Q:VK),Inv X pins σ H s->Vals xs us->r xs H Q->
  wpAny (model X.prog X.w) X.A (call f us) (EP X pins σ Q) X.xe s
def FL(X:Cx)(r:V->Hp->(Bool->Hp->Prop)->Prop):Prop:=
 ∀(pins:List (Addr×Obj)) (s:Shared) (σ:St) (H:Hp) (x:V) (v:Value) (Q:Bool->Hp->Prop),Inv X pins σ H s->RelV x v->r x H Q->
  wpAny (model X.prog X.w) X.A (truthy v) (TP X pins σ Q) X.xe s
def tOp(r:R2)(ta tb:TE):TE:=λσ H Q=>ta σ H λx H1=>tb σ H1 λy H2=>r x y H2 Q
def tUn(r:V->Hp->VK->Prop)(ta:TE):TE:=λσ H Q=>ta σ H λx H1=>r x H1 Q
def rI(C:Int->Int->Prop)(g:Int->Int->V):R2:=λx y H Q=>∃i j,x=.int i/\y=.int j/\C i j/\Q (g i j) H
def rI0(g:Int->Int->V):R2:=λx y H Q=>∃i j,x=.int i/\y=.int j/\Q (g i j) H
def rU(g:Int->V):V->Hp->VK->Prop:=λx H Q=>∃i,x=.int i/\Q (g i) H
section
variable{X:Cx}{a b c:Expr}{ta tb tc:TE}{pos:Pos}
theorem DO(ha:PE X a ta)(hb:PE X b tb){pins:List (Addr×Obj)}{s:Shared}{σ:St}{H:Hp}{R:V->V->Hp->Prop}(I:Inv X pins σ H s)
  (h:ta σ H λx H1=>tb σ H1 λy H2=>R x y H2){Q:Value->Shared->Prop}{f:Value->Value->Sem Value}
  (hf:∀v u s2 x y H2,Inv X pins σ H2 s2->RelV x v->RelV y u->R x y H2->wpAny (model X.prog X.w) X.A (f v u) Q X.xe s2) :
  wpAny (model X.prog X.w) X.A (eval a X.env) (λv s₁=>wpAny (model X.prog X.w) X.A (eval b X.env) (λu s₂=>wpAny (model X.prog X.w) X.A (f v u) Q X.xe s₂) X.xe s₁) X.xe s:=by
 refine thn (ha pins s σ H _ I h) λv s1 ⟨x,H1,I1,r1,q1⟩=>?_
 refine thn (hb pins s1 σ H1 _ I1 q1) λu s2 ⟨y,H2,I2,r2,q2⟩=>?_
 exact hf v u s2 x y H2 I2 r1 r2 q2
theorem DP{op:Operator}{r:R2}(ho:OpR X (Qf op) r)(ha:PE X a ta)(hb:PE X b tb):PE X (.BinOp a op b pos) (tOp r ta tb):=by
 intro pins s σ H Q I h;exact wpAny_BinOp (DO ha hb I h λv u s2 x y H2 I2 rx ry q=>ho pins s2 σ H2 x y v u Q I2 rx ry q)
theorem Bp{op:UnaryOp}{r:V->Hp->VK->Prop}(ho:UnR X (unaryOp op) r)(ha:PE X a ta):PE X (.UnaryOp op a pos) (tUn r ta):=by
 intro pins s σ H Q I h;exact UnaryOp_ (thn (ha pins s σ H _ I h) λv s1 ⟨x,H1,I1,r1,q1⟩=>ho pins s1 σ H1 x v Q I1 r1 q1)
theorem opI{f:Value->Value->Sem Value}{C:Int->Int->Prop}{g:Int->Int->Int}
  (rule:∀(i j:Int) (t u:Tok) (s:Shared) (Q:Value->Shared->Prop) (E:Value->Shared->Prop),C i j->Q (.int (g i j) s.toks) { s with toks:=s.toks+1 }->wpAny (model X.prog X.w) X.A (f (.int i t) (.int j u)) Q E s) :
  OpR X f (rI C λi j=>.int (g i j)):=by
 intro pins s σ H x y v u Q I rx ry h;obtain⟨i,j,rfl,rfl,hc,q⟩:=h;obtain⟨t,rfl⟩:=rx;obtain⟨t',rfl⟩:=ry;exact rule i j t t' s _ _ hc ⟨.int (g i j),H,I.tok _,⟨_,rfl⟩,q⟩
theorem DQ{f:Value->Value->Sem Value}{g:Int->Int->Int}
  (rule:∀(i j:Int) (t u:Tok) (s:Shared) (Q:Value->Shared->Prop) (E:Value->Shared->Prop),Q (.int (g i j) s.toks) { s with toks:=s.toks+1 }->wpAny (model X.prog X.w) X.A (f (.int i t) (.int j u)) Q E s) :
  OpR X f (rI0 λi j=>.int (g i j)):=by
 intro pins s σ H x y v u Q I rx ry h;obtain⟨i,j,rfl,rfl,q⟩:=h;obtain⟨t,rfl⟩:=rx;obtain⟨t',rfl⟩:=ry;exact rule i j t t' s _ _ ⟨.int (g i j),H,I.tok _,⟨_,rfl⟩,q⟩
theorem DR{f:Value->Value->Sem Value}{g:Int->Int->Bool}
  (rule:∀(i j:Int) (t u:Tok) (s:Shared) (Q:Value->Shared->Prop) (E:Value->Shared->Prop),Q (.bool (g i j)) s->wpAny (model X.prog X.w) X.A (f (.int i t) (.int j u)) Q E s) :
  OpR X f (rI0 λi j=>.bl (g i j)):=by
 intro pins s σ H x y v u Q I rx ry h;obtain⟨i,j,rfl,rfl,q⟩:=h;obtain⟨t,rfl⟩:=rx;obtain⟨t',rfl⟩:=ry;exact rule i j t t' s _ _ ⟨.bl (g i j),H,I,rfl,q⟩
def DS(i j:Int):Prop:=0<j/\j<1073741824
def AZ(i j:Int):Prop:=0<=j/\j<=1000000/\i.natAbs<2 ^ 64
def CMul(i j:Int):Prop:=(-(2 ^ 64)<i/\i<2 ^ 64)\/(-(2 ^ 64)<j/\j<2 ^ 64)
theorem CMul.ok{i j:Int}(h:CMul i j):IntMulOk i j:=by
 rcases h with⟨h1,h2⟩|⟨h1,h2⟩
 ·exact .of_left (intBits_le_64 h1 h2)
 ·exact .of_right (intBits_le_64 h1 h2)
theorem Bq:OpR X (Qf .Add) (rI0 λi j=>.int (i+j)):=DQ λ_ _ _ _ _ _ _ q=>add_int q
theorem Br:OpR X (Qf .Sub) (rI0 λi j=>.int (i - j)):=DQ λ_ _ _ _ _ _ _ q=>sub_int q
theorem Bs:OpR X (Qf .Mult) (rI CMul λi j=>.int (i*j)):=opI λ_ _ _ _ _ _ _ hc q=>mul_int q hc.ok
theorem Bt:OpR X (Qf .Mod) (rI (λ_ j=>0<j) λi j=>.int (i % j)):=opI λi j _ _ _ _ _ hc q=>by
 have h1:(0:Int)<j:=hc;exact mod_int' ⋯ (by rw[Int.fmod_eq_emod_of_nonneg i ⋯];exact q)
theorem Bu:OpR X (Qf .Pow) (rI AZ λi j=>.int (i ^ j.toNat)):=opI λ_ _ _ _ _ _ _ hc q=>pow_int_small hc.1 hc.2.1 hc.2.2 q
theorem zh:OpR X (inplaceOp .Add) (rI0 λi j=>.int (i+j)):=DQ λ_ _ _ _ _ _ _ q=>iadd_int q
theorem wq:OpR X (inplaceOp .FloorDiv) (rI DS λi j=>.int (i / j)):=opI λi j _ _ _ _ _ hc q=>by
 have h1:(0:Int)<j:=hc.1;have h2:j<1073741824:=hc.2;exact ifloordiv_int ⋯ (by rw[Lj i ⋯];exact q) (.inl (PyProof.noPylong_small ⋯))
theorem unI{f:Value->Sem Value}{g:Int->Int}
  (rule:∀(i:Int) (t:Tok) (s:Shared) (Q:Value->Shared->Prop) (E:Value->Shared->Prop),Q (.int (g i) s.toks) { s with toks:=s.toks+1 }->wpAny (model X.prog X.w) X.A (f (.int i t)) Q E s) :
  UnR X f (rU λi=>.int (g i)):=by
 intro pins s σ H x v Q I rx h;obtain⟨i,rfl,q⟩:=h;obtain⟨t,rfl⟩:=rx;exact rule i t s _ _ ⟨.int (g i),H,I.tok _,⟨_,rfl⟩,q⟩
theorem yi:UnR X (unaryOp .USub) (rU λi=>.int (-i)):=unI λ_ _ _ _ _ q=>neg_int q
end
noncomputable def Fb:V->V->Bool
 | .non,.non=>true | .non,.int _=>true | .int _,.non=>true | .non,.bl _=>true | .bl _,.non=>true | .non,.str _=>true | .str _,.non=>true
 | .int _,.int _=>true | .bl _,.bl _=>true | .str _,.str _=>true | .byt _,.byt _=>true
 | .int _,.str _=>true | .str _,.int _=>true | .bl _,.str _=>true | .str _,.bl _=>true
 | _,_=>false
def rEq:R2:=λx y H Q=>Fb x y=true/\Q (.bl (decide (x=y))) H
def rNe:R2:=λx y H Q=>Fb x y=true/\Q (.bl (!decide (x=y))) H
theorem sK{i j:Int}:decide (V.int i=V.int j)=(i == j):=by
 rw[KH];simp
theorem yj{i j:Bool}:decide (V.bl i=V.bl j)=(i == j):=by
 rw[KH];simp
theorem sL{i j:Str}:decide (V.str i=V.str j)=(i == j):=by
 rw[KH];simp
theorem sM{i j:Array UInt8}:decide (V.byt i=V.byt j)=(i.toList == j.toList):=by
 rw[KH];cases i;cases j;simp
section
variable{X:Cx}{a b c:Expr}{ta tb tc:TE}{pos:Pos}
theorem aZ{pins:List (Addr×Obj)}{σ:St}{H:Hp}{s:Shared}{Q:VK}{k k':Bool}(I:Inv X pins σ H s)(q:Q (.bl k) H)(e:k=k'):EP X pins σ Q (.bool k') s:=by
 subst e;exact⟨.bl k,H,I,rfl,q⟩
theorem DT:OpR X (Qc .Eq) rEq:=by
 intro pins s σ H x y v u Q I rx ry h;obtain⟨hs,q⟩:=h;cases x with
 | non=>
  cases rx;cases y with
  | non=>cases ry;exact Oi (aZ I q (by simp))
  | bl j=>cases ry;exact Oj (aZ I q (by simp))
  | int j=>obtain⟨t',rfl⟩:=ry;exact OB (aZ I q (by simp))
  | str j=>obtain⟨t',rfl⟩:=ry;exact OC (aZ I q (by simp))
  | _=>exact absurd (show false=true from hs) G3
 | bl i=>
  cases rx;cases y with
  | non=>cases ry;exact Ol (aZ I q (by simp))
  | bl j=>cases ry;exact eq_bool (aZ I q yj)
  | str j=>obtain⟨t',rfl⟩:=ry;exact Om (aZ I q (by simp))
  | _=>exact absurd (show false=true from hs) G3
 | int i=>
  obtain⟨t,rfl⟩:=rx;cases y with
  | non=>cases ry;exact OD (aZ I q (by simp))
  | int j=>obtain⟨t',rfl⟩:=ry;exact eq_int (aZ I q sK)
  | str j=>obtain⟨t',rfl⟩:=ry;exact OE (aZ I q (by simp))
  | _=>exact absurd (show false=true from hs) G3
 | str i=>
  obtain⟨t,rfl⟩:=rx;cases y with
  | non=>cases ry;exact OF (aZ I q (by simp))
  | bl j=>cases ry;exact On (aZ I q (by simp))
  | int j=>obtain⟨t',rfl⟩:=ry;exact OG (aZ I q (by simp))
  | str j=>obtain⟨t',rfl⟩:=ry;exact eq_str (aZ I q sL)
  | _=>exact absurd (show false=true from hs) G3
 | byt i=>
  obtain⟨t,rfl⟩:=rx;cases y with
  | byt j=>obtain⟨t',rfl⟩:=ry;exact PySem.W.eq_bytes (aZ I q sM)
  | _=>exact absurd (show false=true from hs) G3
 | _=>cases y<;>exact absurd (show false=true from hs) G3
theorem DU:OpR X (Qc .NotEq) rNe:=by
 intro pins s σ H x y v u Q I rx ry h;obtain⟨hs,q⟩:=h;cases x with
 | non=>
  cases rx;cases y with
  | non=>cases ry;exact Oo (aZ I q (by simp))
  | bl j=>cases ry;exact Oq (aZ I q (by simp))
  | int j=>obtain⟨t',rfl⟩:=ry;exact OH (aZ I q (by simp))
  | str j=>obtain⟨t',rfl⟩:=ry;exact OI (aZ I q (by simp))
  | _=>exact absurd (show false=true from hs) G3
 | bl i=>
  cases rx;cases y with
  | non=>cases ry;exact Os (aZ I q (by simp))
  | bl j=>cases ry;exact ne_bool (aZ I q (congrArg not yj))
  | str j=>obtain⟨t',rfl⟩:=ry;exact Ot (aZ I q (by simp))
  | _=>exact absurd (show false=true from hs) G3
 | int i=>
  obtain⟨t,rfl⟩:=rx;cases y with
  | non=>cases ry;exact OJ (aZ I q (by simp))
  | int j=>obtain⟨t',rfl⟩:=ry;exact ne_int (aZ I q (congrArg not sK))
  | str j=>obtain⟨t',rfl⟩:=ry;exact OK (aZ I q (by simp))
  | _=>exact absurd (show false=true from hs) G3
 | str i=>
  obtain⟨t,rfl⟩:=rx;cases y with
  | non=>cases ry;exact OL (aZ I q (by simp))
  | bl j=>cases ry;exact Ou (aZ I q (by simp))
  | int j=>obtain⟨t',rfl⟩:=ry;exact OM (aZ I q (by simp))
  | str j=>obtain⟨t',rfl⟩:=ry;exact ne_str (aZ I q (congrArg not sL))
  | _=>exact absurd (show false=true from hs) G3
 | byt i=>
  obtain⟨t,rfl⟩:=rx;cases y with
  | byt j=>obtain⟨t',rfl⟩:=ry;exact PySem.W.ne_bytes (aZ I q (congrArg not sM))
  | _=>exact absurd (show false=true from hs) G3
 | _=>cases y<;>exact absurd (show false=true from hs) G3
theorem DV:OpR X (Qc .Lt) (rI0 λi j=>.bl (decide (i<j))):=DR λ_ _ _ _ _ _ _ q=>lt_int q
theorem DW:OpR X (Qc .Gt) (rI0 λi j=>.bl (decide (j<i))):=DR λ_ _ _ _ _ _ _ q=>gt_int q
theorem DX:OpR X (Qc .GtE) (rI0 λi j=>.bl (decide (j<=i))):=DR λ_ _ _ _ _ _ _ q=>ge_int q
theorem aK(b:Expr){op:CmpOp}(h:op≠.In:=by decide)(h2:op≠.NotIn:=by decide):QQ op b=false:=by
 have e1:(op == CmpOp.In)=false:=by cases op<;>first|rfl|exact absurd rfl h
 have e2:(op == CmpOp.NotIn)=false:=by cases op<;>first|rfl|exact absurd rfl h2
 cases b<;>simp[QQ,e1,e2]
theorem zi{op:CmpOp}{r:R2}(ho:OpR X (Qc op) r)(ha:PE X a ta)(hb:PE X b tb)(hm:QQ op b=false):PE X (.Compare a [op] [b] pos) (tOp r ta tb):=by
 intro pins s σ H Q I h;exact wpAny_Compare1 (DO ha hb I h λv u s2 x y H2 I2 rx ry q=>ho pins s2 σ H2 x y v u Q I2 rx ry q) hm
def zj(t:TE):TT:=λσ H Q=>t σ H λx H'=>∃k,x=.bl k/\Q k H'
theorem zk{op:CmpOp}{r:R2}(ho:OpR X (Qc op) r)(ha:PE X a ta)(hb:PE X b tb)(hm:QQ op b=false):PT X (.Compare a [op] [b] pos) (zj (tOp r ta tb)):=by
 intro pins s σ H Q I h;refine wpAny_isTrue_Compare1 (thn (ha pins s σ H _ I h) λv s1 ⟨x,H1,I1,r1,q1⟩=>thn (hb pins s1 σ H1 _ I1 q1) λu s2 ⟨y,H2,I2,r2,q2⟩=>
  thn (ho pins s2 σ H2 x y v u _ I2 r1 r2 q2) λc s3 ⟨z,H3,I3,r3,k,e,q3⟩=>?_) hm
 subst e;cases r3;exact QK ⟨H3,I3,q3⟩
def A0(K:GC)(x:V)(H:Hp)(k:Bool):Prop:=
 match x with
 | .non=>k=false
 | .bl b=>k=b
 | .int i=>k=(i != 0)
 | .str y=>y.length<=P4/\k=((y.length:Int) != 0)
 | .byt y=>y.size<=P4/\k=((y.size:Int) != 0)
 | .ref p=>(∃xs,SqL K H p xs/\k=!xs.isEmpty)\/(∃xs,SqT K H p xs/\k=!xs.isEmpty)\/∃kvs,H p=some (.dK kvs)/\k=!kvs.isEmpty
 | _=>False
theorem qX{κ:Type}{kvs:List (κ×V)}{vs:List (κ×Value)}(r:KV kvs vs):(!vs.isEmpty)=!kvs.isEmpty:=by
 cases r<;>rfl
theorem kQ{xs:List V}{its:List Value}(r:Vals xs its):(!its.toArray.isEmpty)=!xs.isEmpty:=by
 cases r<;>simp
theorem gC:(P4:Nat)<2 ^ 63:=by rw[Qb];decide
theorem Bv:FL X (λx H Q=>∃k,A0 X.K x H k/\Q k H):=by
 intro pins s σ H x v Q I rx h;obtain⟨k,e,q⟩:=h;have hl:=gC;have hs:P4=16777216:=Qb;cases x with
 | non=>
  cases rx;have e':k=false:=e;subst e';exact truthy_none ⟨H,I,q⟩
 | bl b=>
  cases rx;have e':k=b:=e;subst e';exact QK ⟨H,I,q⟩
 | int i=>
  obtain⟨t,rfl⟩:=rx;have e':k=(i != 0):=e;subst e';exact PySem.P.truthy_int ⟨H,I,q⟩
 | str y=>
  obtain⟨t,rfl⟩:=rx;obtain⟨hy,e'⟩:y.length<=P4/\k=((y.length:Int) != 0):=e;subst e';exact PySem.P.truthy_str ⋯ ⟨H,I.tok _,q⟩
 | byt y=>
  obtain⟨t,rfl⟩:=rx;obtain⟨hy,e'⟩:y.size<=P4/\k=((y.size:Int) != 0):=e;subst e';exact PySem.W.truthy_bytes ⋯ ⟨H,I.tok _,q⟩
 | ref p=>
  cases rx;have e':(∃xs,SqL X.K H p xs/\k=!xs.isEmpty)\/(∃xs,SqT X.K H p xs/\k=!xs.isEmpty)\/∃kvs,H p=some (.dK kvs)/\k=!kvs.isEmpty:=e
  rcases e' with⟨xs,hx,e'⟩|⟨xs,hx,e'⟩|⟨kvs,hx,e'⟩
  ·subst e'
   obtain⟨its,r,pl,hz⟩:=I.list hx;have hlen:=r.length;exact wpAny_truthy_list pl.isList (by simp only[GO];lia) ⟨H,I.tok _,by rw[kQ r];exact q⟩
  ·subst e'
   obtain⟨its,r,pl,hz⟩:=I.tuple hx;have hlen:=r.length;exact truthy_tuple pl (by simp only[GO];lia) ⟨H,I.tok _,by rw[kQ r];exact q⟩
  ·subst e'
   obtain⟨hz,hS,vs,r,m⟩:kvs.length<=P4/\(p == Qt)=false/\∃vs,KV kvs vs/\s.heap.DictOf (aO X.prog X.w) p vs:=I.hok p _ hx
   have hlen:kvs.length=vs.length:=Lh r;exact wpAny_truthy_dict hS m ⋯ ⟨H,I.tok _,by rw[qX r];exact q⟩
 | _=>exact(show False from e).elim
theorem wt(ha:PE X a ta)(he:∀whole,isTrue a X.env whole=(do let v <-whole;standAt a.pos;Qo [v] (truthy v))):
  PT X a (λσ H Q=>ta σ H λx H'=>∃k,A0 X.K x H' k/\Q k H'):=by
 intro pins s σ H Q I h;exact isTrue_plain (thn (ha pins s σ H _ I h) λv s1 ⟨x,H1,I1,r1,q1⟩=>Bv pins s1 σ H1 x v Q I1 r1 q1) (he _)
theorem qY:OpR X (Qf .Add) (λx y H Q=>∃i j,x=.str i/\y=.str j/\i.length+j.length<=P4/\Q (.str (i++j)) H):=by
 intro pins s σ H x y v u Q I rx ry h;obtain⟨i,j,rfl,rfl,hz,q⟩:=h;obtain⟨t,rfl⟩:=rx;obtain⟨t',rfl⟩:=ry;exact add_str (λt' tk=>⟨.str (i++j),H,I.tok _,⟨_,rfl⟩,q⟩) hz
theorem gD{x:V}{us:List Value}(r:Vals [x] us):∃u,us=[u]/\RelV x u:=by
 cases r with
 | cons r1 r2=>cases r2;exact⟨_,rfl,r1⟩
theorem zl{x y:V}{us:List Value}(r:Vals [x,y] us):∃u w',us=[u,w']/\RelV x u/\RelV y w':=by
 cases r with
 | cons r1 r2=>
  cases r2 with
  | cons r3 r4=>cases r4;exact⟨_,_,rfl,r1,r3⟩
theorem wu:cx X (.builtin "abs") (λxs H Q=>∃i,xs=[.int i]/\Q (.int (if i<0 then -i else i)) H):=by
 intro pins s σ H xs us Q I r h;obtain⟨i,rfl,q⟩:=h;obtain⟨u,rfl,t,rfl⟩:=gD r;exact call_abs_int λu tk=>⟨.int (if i<0 then -i else i),H,I.tok _,⟨_,rfl⟩,q⟩
theorem sN (hc:X.calm=true):cx X (.builtin "max") (λxs H Q=>∃i j,xs=[.int i,.int j]/\Q (.int (if j > i then j else i)) H):=by
 intro pins s σ H xs us Q I r h;obtain⟨i,j,rfl,q⟩:=h;obtain⟨u,w',rfl,⟨t,rfl⟩,⟨t',rfl⟩⟩:=zl r;refine max_two_ints (I.ok.hd hc) λh' tk k=>⟨_,H,I.kept k,?_,q⟩
 by_cases hj:j > i
 ·rw[if_pos hj,if_pos hj];exact⟨_,rfl⟩
 ·rw[if_neg hj,if_neg hj];exact⟨_,rfl⟩
theorem sO (hc:X.calm=true):cx X (.builtin "min") (λxs H Q=>∃i j,xs=[.int i,.int j]/\Q (.int (if j<i then j else i)) H):=by
 intro pins s σ H xs us Q I r h;obtain⟨i,j,rfl,q⟩:=h;obtain⟨u,w',rfl,⟨t,rfl⟩,⟨t',rfl⟩⟩:=zl r;refine min_two_ints (I.ok.hd hc) λh' tk k=>⟨_,H,I.kept k,?_,q⟩
 by_cases hj:j<i
 ·rw[if_pos hj,if_pos hj];exact⟨_,rfl⟩
 ·rw[if_neg hj,if_neg hj];exact⟨_,rfl⟩
theorem sP:cx X (.type "int") (λxs H Q=>(∃i,xs=[.int i]/\Q (.int i) H)\/∃k,xs=[.bl k]/\Q (.int (if k then 1 else 0)) H):=by
 intro pins s σ H xs us Q I r h;rcases h with⟨i,rfl,q⟩|⟨k,rfl,q⟩
 ·obtain⟨u,rfl,t,rfl⟩:=gD r
  exact call_int_int ⟨.int i,H,I,⟨_,rfl⟩,q⟩
 ·obtain⟨u,rfl,r1⟩:=gD r
  cases r1;exact call_int_bool ⟨.int (if k then 1 else 0),H,I.tok _,⟨_,rfl⟩,q⟩
theorem wv:cx X (.builtin "ord") (λxs H Q=>∃x,xs=[.str x]/\x.length=1/\Q (.int (x.cps.getD 0 0:Nat)) H):=by
 intro pins s σ H xs us Q I r h;obtain⟨x,rfl,hz,q⟩:=h;obtain⟨u,rfl,t,rfl⟩:=gD r;exact ord_of_one hz ⟨.int _,H,I.tok _,⟨_,rfl⟩,q⟩
end
structure ObjM (h:Heap) (x dx C:Addr) (mA:Str->Option Value):Prop where
 obj:h.get? x=some (Mi C dx)
 ns:h.Ns1 dx mA
 ne:dx≠x
theorem sQ{h:Heap}{dx:Addr}{mA:Str->Option Value}(n:h.Ns1 dx mA):∃od,h.get? dx=some od/\∀name,MC name od=some (mA name):=by
 obtain⟨o,es,ep,ho,hd,hk,_,hm⟩:=n;refine⟨o,ho,λname=>?_⟩;have e:=hm name;unfold nsFind findBy at e;rw[<-Array.find?_toList]at e;unfold MC;rw[hd];dsimp only;split
 ·rename_i y q
  rw[q]at e;exact congrArg some e
 ·rename_i q
  rw[q]at e;have a:es.toList.any (·.refKey)=false:=by
   rw[List.any_eq_false];intro y hy;obtain⟨z,t,hkey⟩:=hk y (MP.mp hy);simp[PF,hkey]
  have a':¬es.toList.any (·.refKey)=true:=by rw[a];exact G3
  rw[if_neg a'];exact congrArg some e
theorem ObjM.look{h:Heap}{x dx C:Addr}{mA:Str->Option Value}(I:ObjM h x dx C mA):∃od,PySem.W.InstAt h x (Mi C dx) C (some od)/\∀name,MC name od=some (mA name):=
 let⟨od,ho,hl⟩:=sQ I.ns
 ⟨od,⟨I.obj,rfl,rfl,ho⟩,hl⟩
section
variable{prog:Program}{w:World}{A:Around}{E:Value->Shared->Prop}{s:Shared}{K:GC}{x dx C f:Addr}{mA:Str->Option Value}{name:Str}{v:Value}
end
theorem RelO.some_of{v:V}{o:Option Value}(r:RelO (some v) o):∃u,o=some u/\RelV v u:=by
 cases o with
 | none=>exact(show False from r).elim
 | some u=>exact⟨u,rfl,r⟩
section
variable{P:Program}{w:World}{H H':Hp}{h h':Heap}{a C dx:Addr}{fs fs':List (Str×V)}
theorem zm(hok:HOk P w H h)(e:H a=some (.ins C dx fs)):∃mA,ObjM h a dx C mA/\(∀f,RelO (fs.lookup f) (mA f))/\Oz mA (fs.map (·.1))/\fs.length<=1000/\H dx=some (.own a):=by
 obtain⟨d,z,ne,ob,mA,n,r,q⟩:=(show ObjOk P w H h a (.ins C dx fs)from hok a _ e);exact⟨mA,⟨ob,n,ne⟩,r,q,z,d⟩
end
structure Cls (K:GC) (C:Addr):Prop where
 pg:ND K C Str.empty=true
 hd:PySem.W.hasDictIn K C=true
 po:PySem.W.plainOver K C=true
 sa:N1 K (.ref C) "__setattr__" = some (some (.builtin "object.__setattr__"))
theorem Cls.get{K:GC}{C:Addr}(c:Cls K C)(f:Str):ND K C f=true:=c.pg
section
variable{X:Cx}{pins:List (Addr×Obj)}{σ:St}{H:Hp}{s:Shared}{a C dx:Addr}{fs:List (Str×V)}{f:Str}{v:V}{A:Around}{E:Value->Shared->Prop}
end
section
variable{X:Cx}{o e value:Expr}{f:Str}{pos pos' tpos:Pos}{ta tv:TE}
end
section
variable{X:Cx}{pins:List (Addr×Obj)}{σ:St}{H:Hp}{s:Shared}{A:Around}{E:Value->Shared->Prop}{Q:Value->Shared->Prop}{c:Value}{b:Bool}
inductive TyOf (K:GC) (H:Hp):V->Value->Prop where
 | non:TyOf K H .non (.type "NoneType")
 | bl (x:Bool):TyOf K H (.bl x) (.type "bool")
 | int (i:Int):TyOf K H (.int i) (.type "int")
 | str (x:Str):TyOf K H (.str x) (.type "str")
 | flt (x:UInt64):TyOf K H (.flt x) (.type "float")
 | lst {a:Addr}{xs:List V}(e:H a=some (.lst xs)):TyOf K H (.ref a) (.type "list")
 | frz {a:Addr}{o:Obj}{xs:List V}(e:H a=some (.frz o (.lst xs))):TyOf K H (.ref a) (.type "list")
 | tup {a:Addr}{xs:List V}(e:H a=some (.tup xs)):TyOf K H (.ref a) (.type "tuple")
 | dK {a:Addr}{kvs:List (Key×V)}(e:H a=some (.dK kvs)):TyOf K H (.ref a) (.type "dict")
 | dT {a:Addr}{kvs:List (List Key×V)}(e:H a=some (.dT kvs)):TyOf K H (.ref a) (.type "dict")
 | ins {a C dx:Addr}{fs:List (Str×V)}(e:H a=some (.ins C dx fs)) (cl:Cls K C) (ha:N1 K (.ref C) "__class__" = some (some (.builtin "object.__class__")))
   (hn:PySem.W.specialIn K (.builtin "object.__class__") "__get__" = some (some (.builtin "getset_descriptor.__get__"))) (htk:PySem.W.takesIn K (.builtin "object.__class__")=some true)
   (hm:PySem.W.mroIn K C (.type "object")=some true):TyOf K H (.ref a) (.ref C)
theorem sR{x:V}{u t:Value}(I:Inv X pins σ H s)(rx:RelV x u)(ty:TyOf X.K H x t)(e:JC X.K t c=some b)(h:∀tk,Q (.bool b) { s with toks:=tk }):
  wpAny (model X.prog X.w) A (call (.builtin "isinstance") [u,c]) Q E s:=by
 cases ty with
 | non=>cases(show u=Hf from rx);exact Ik Ls I.kIn GL e (λz=>nomatch z) h
 | bl y=>cases(show u=Jc y from rx);exact Ik Nm I.kIn GL e (λz=>nomatch z) h
 | int i=>obtain⟨t,q⟩:=(show ∃t,u=JK i t from rx);cases q;exact Ik LF I.kIn GL e (λz=>nomatch z) h
 | str y=>obtain⟨t,q⟩:=(show ∃t,u=K7 y t from rx);cases q;exact Ik NE I.kIn GL e (λz=>nomatch z) h
 | flt y=>obtain⟨t,q⟩:=(show ∃t,u=O3 y t from rx);cases q;exact Ik PySem.W.kitx_float I.kIn GL e (λz=>nomatch z) h
 | @lst a xs ea=>
  cases(show u=Hb a from rx);obtain⟨_,_,n,_,h1⟩:=(show ObjOk X.prog X.w H s.heap a (.lst xs)from I.hok a _ ea);exact Ik Kj I.kIn ⟨_,h1,rfl⟩ e (λz=>nomatch z) h
 | @frz a ob xs ea=>
  cases(show u=Hb a from rx);obtain⟨_,_,_,n,_,h1⟩:=(show ObjOk X.prog X.w H s.heap a (.frz ob (.lst xs))from I.hok a _ ea);exact Ik Kj I.kIn ⟨_,h1,rfl⟩ e (λz=>nomatch z) h
 | @tup a xs ea=>
  cases(show u=Hb a from rx);obtain⟨_,_,_,p⟩:=(show ObjOk X.prog X.w H s.heap a (.tup xs)from I.hok a _ ea);obtain⟨o,h1,h2,_⟩:=p;exact Ik K8 I.kIn ⟨o,h1,h2⟩ e (λz=>nomatch z) h
 | @dK a kvs ea=>
  cases(show u=Hb a from rx);obtain⟨_,_,vs,_,p⟩:=(show ObjOk X.prog X.w H s.heap a (.dK kvs)from I.hok a _ ea);obtain⟨o,es,ep,h1,h2,_⟩:=p;exact Ik Nn I.kIn ⟨o,h1,h2.1⟩ e (λz=>nomatch z) h
 | @dT a kvs ea=>
  cases(show u=Hb a from rx);obtain⟨_,_,xs,_,o,es,ep,h1,h2,_⟩:=(show ObjOk X.prog X.w H s.heap a (.dT kvs)from I.hok a _ ea);exact Ik Nn I.kIn ⟨o,h1,h2.1⟩ e (λz=>nomatch z) h
 | @ins a C dx fs ea cl ha hn htk hm=>
  cases(show u=Hb a from rx);obtain⟨mA,O,_⟩:=zm I.hok ea;obtain⟨od,J,_⟩:=O.look;exact Ik (PySem.W.kitx_own (cl.get _) cl.hd ha hn htk hm) I.kIn J e (λz=>nomatch z) h
end
structure Room (k:Nat) (A:Around):Prop where
 hd:A.handled=none
 dp:A.depth+3*k+5<recursionLimit
 un:A.units+16*k+200<cLine
 gd:A.guards=some []
theorem Room.mono{j k:Nat}{A:Around}(r:Room k A)(h:j<=k):Room j A:=⟨r.hd,by have:=r.dp;lia,by have:=r.un;lia,r.gd⟩
theorem Room.deeper{k:Nat}{A:Around}(r:Room (k+1) A)(env:Env):Room k (A.deeper env):=
 ⟨r.hd,by have:=r.dp;show A.depth+1+3*k+5<_;lia,by have:=r.un;show A.units+3+16*k+200<_;lia,r.gd⟩
theorem Room.depth{k:Nat}{A:Around}(r:Room k A):A.depth<recursionLimit:=by have:=r.dp;lia
theorem Room.units{k:Nat}{A:Around}(r:Room k A):A.units+64<cLine:=by have:=r.un;lia
theorem Room.units0{k:Nat}{A:Around}(r:Room k A):A.units<cLine:=by have:=r.un;lia
def De:TA:=λ_ H Q=>Q [] H
def qZ(ta:TE)(tr:TA):TA:=λσ H Q=>ta σ H λx H1=>tr σ H1 λxs H2=>Q (x::xs) H2
section
variable{X:Cx}{e:Expr}{es:List Expr}{te:TE}{t:TA}{pos:Pos}
theorem Bw:PA X [] De:=λ_ _ _ _ H Q I h=>JA ⟨[],H,I,.nil,h⟩
theorem zn(ha:PE X e te)(hr:PA X es t)(hs:starEach (e::es) X.env=(false,eval e X.env)::starEach es X.env:=by rfl):PA X (e::es) (qZ te t):=by
 intro pos pins s σ H Q I h;rw[hs];show wpAny _ _ (spliced ((false,eval e X.env)::backTo pos (starEach es X.env))) _ _ s
 refine IV (thn (ha pins s σ H _ I h) λu s1 ⟨x,H1,I1,r1,q1⟩=>?_);exact thn (hr pos pins s1 σ H1 _ I1 q1) λus s2 ⟨xs,H2,I2,r2,q2⟩=>⟨x::xs,H2,I2,.cons r1 r2,q2⟩
def DY(t:TA):TE:=λσ H Q=>t σ H λxs H1=>xs.length<=P4/\∀p,H1 p=none->Q (.ref p) (upd H1 p (.tup xs))
def DZ(t:TA):TE:=λσ H Q=>t σ H λxs H1=>xs.length<=P4/\∀p,H1 p=none->Q (.ref p) (upd H1 p (.lst xs))
theorem Bx{x1}(h:PA X es t):PE X (.Tuple es x1 pos) (DY t):=by
 intro pins s σ H Q I hq;refine wpAny_Tuple_spliced (thn (h pos pins s σ H _ I hq) λus s1 ⟨xs,H1,I1,r,z,q⟩=>⟨by rw[<-r.length];exact z,?_⟩);have hf:H1 s1.heap.objs.size=none:=I1.hok.fresh (GF _);refine⟨.ref s1.heap.objs.size,upd H1 s1.heap.objs.size (.tup xs),I1.laid (t':=s1.toks) (λb u e=>GD _ e) (GF _) ?_,rfl,q _ hf⟩;exact⟨z,us,r,⟨_,GT _ rfl,rfl,_,rfl⟩⟩
theorem By(h:PA X es t):PE X (.List es pos) (DZ t):=by
 intro pins s σ H Q I hq;refine wpAny_List_spliced (thn (h pos pins s σ H _ I hq) λus s1 ⟨xs,H1,I1,r,z,q⟩=>⟨by rw[<-r.length];exact z,?_⟩);have hf:H1 s1.heap.objs.size=none:=I1.hok.fresh (GF _);refine⟨.ref s1.heap.objs.size,upd H1 s1.heap.objs.size (.lst xs),I1.laid (t':=s1.toks) (λb u e=>GD _ e) (GF _) ?_,rfl,q _ hf⟩;exact⟨z,us,0,r,GT _ rfl⟩
end
noncomputable abbrev Sp:=List V->Hp->VK->XK->Prop
noncomputable abbrev CXT:=List Env->Hp->Shared->XK->Value->Shared->Prop
structure Env0 (P:Program) (w:World) (K:GC) (mg:Str->Option Value) (base:Heap) (A:Around) (outer:List Env) (s:Shared) (H:Hp):Prop where
 frames:A.frames=some outer
 mod:Mod K mg base
 bs:∀b o,base.get? b=some o->s.heap.get? b=some o/\H b=none
 bsz:base.objs.size<=s.heap.objs.size
 funs:s.heap.FunFrames base outer
 frf:∀b∈frs outer,H b=none
 hok:HOk P w H s.heap
 bare:AllBare s.gens
def CE(outer:List Env)(P:Program)(w:World)(H:Hp)(s:Shared)(Q:VK)(u:Value)(s':Shared):Prop:=
 ∃v H',s'.os=s.os/\AllBare s'.gens/\Un (frs outer) [] H H' s.heap s'.heap/\HOk P w H' s'.heap/\RelV v u/\Q v H'
def CR(CX:CXT)(outer:List Env)(P:Program)(w:World)(H:Hp)(s:Shared)(Q:VK)(E:XK)(r:Result)(s':Shared):Prop:=
 match r with
 | .ok (.ret u)=>CE outer P w H s Q u s'
 | .ok _=>False
 | .error e=>CX outer H s E e s'
structure FnOk (P:Program) (w:World) (K:GC) (mg:Str->Option Value) (base:Heap) (CX:CXT) (k:Nat) (f:Addr) (fd:FuncData) (ps:List Str) (sp:Sp):Prop where
 len:∀vs H Q E,sp vs H Q E->vs.length=ps.length
 run:∀(A:Around) (outer:List Env) (s:Shared) (H:Hp) (args:Args) (us:List Value) (vs:List V) (Q:VK) (E:XK),Room k A->Env0 P w K mg base A outer s H->BindsTo s fd args (ps.zip us)->Vals vs us->sp vs H Q E->
  codeAny (model P w) A (.call (.ref f) args) (CR CX outer P w H s Q E) s
section
variable{X:Cx}{pins:List (Addr×Obj)}{σ:St}{H:Hp}{s s':Shared}
theorem Inv.env0(I:Inv X pins σ H s):Env0 X.prog X.w X.K X.mg X.base X.A X.stack s H:=
 ⟨I.ok.frames,I.ok.mod,I.bs,HJ I.ok.bsz I.sz,I.stack,I.stkFree,I.hok,I.bare⟩
theorem Inv.after{Q:VK}{u:Value}(I:Inv X pins σ H s)(h:CE X.stack X.prog X.w H s Q u s'):EP X pins σ Q u s':=by
 obtain⟨v,H',os,bare,un,hok,r,q⟩:=h;obtain⟨hh,g,d,t,os'⟩:=s';obtain rfl:os'=s.os:=os;exact⟨v,H',I.call (h':=hh) (g':=g) (d':=d) (t':=t) (ch:=[]) un hok bare (λb z=>absurd z (by simp)),r,q⟩
end
def ww(sp:Sp)(dvs:List V)(E:XK)(t:TA):TE:=λσ H Q=>t σ H λvs H1=>sp (vs++dvs) H1 Q E
def Binds(K:GC)(fd:FuncData)(ps:List Str)(ds:List Value):Prop:=
 ∀(s:Shared) (us:List Value),K.In s.heap->(us++ds).length=ps.length->BindsTo s fd ⟨us,[]⟩ (ps.zip (us++ds))
theorem Binds.all{K:GC}{fd:FuncData}{ps:List Str}(h:∀us:List Value,us.length=ps.length->bindArgs fd ⟨us,[]⟩=pure (ps.zip us)):Binds K fd ps []:=λs us _ hl=>by
 rw[Ic]at hl ⊢;exact .of_eq (h us hl)
def kR(CX:CXT)(X:Cx)(E:XK):Prop:=∀(pins:List (Addr×Obj)) (σ:St) (H:Hp) (s:Shared) (e:Value) (s':Shared),Inv X pins σ H s->CX X.stack H s E e s'->X.xe e s'
section
variable{X:Cx}{CX:CXT}{k:Nat}{f C:Addr}{fd:FuncData}{ps:List Str}{sp:Sp}{dvs:List V}{ds:List Value}{E:XK}{x m:Str}{p pos apos:Pos}{e o:Expr}{es:List Expr}{ta:TE}{t:TA}
theorem yk{pins:List (Addr×Obj)}{σ:St}{H:Hp}{s:Shared}{Q:VK}{us:List Value}{vs:List V}(F:FnOk X.prog X.w X.K X.mg X.base CX k f fd ps sp)(hr:Room k X.A)(hb:Binds X.K fd ps ds)(hd:Vals dvs ds)(hx:kR CX X E)
  (I:Inv X pins σ H s) (r:Vals vs us) (h:sp (vs++dvs) H Q E):wpAny (model X.prog X.w) X.A (call (.ref f) us) (EP X pins σ Q) X.xe s:=by
 have r2:Vals (vs++dvs) (us++ds):=r.append hd;have hl:(us++ds).length=ps.length:=by rw[<-r2.length];exact F.len _ _ _ _ h
 refine wpAny_call (QM (F.run X.A X.stack s H ⟨us,[]⟩ (us++ds) (vs++dvs) Q E hr I.env0 (hb s us I.kIn hl) r2 h) λr s' hq=>?_);cases r with
 | error e=>exact hx pins σ H s e s' I hq
 | ok fl=>
  cases fl with
  | ret u=>exact I.after hq
  | next=>exact IG hq
  | brk=>exact IG hq
  | cont=>exact IG hq
theorem zo(F:FnOk X.prog X.w X.K X.mg X.base CX k f fd ps sp)(hr:Room k X.A)(hg:Gl X x)(hm:X.mg x=some (.ref f))(hk:Jf X.K (.ref f)=true)(hb:Binds X.K fd ps ds)(hd:Vals dvs ds)(hx:kR CX X E)
  (ha:PA X (e::es) t) (hdb:(x == ("__debug__" : Str))=false:=by decide) (he:starEach (e::es) X.env=(false,eval e X.env)::starEach es X.env:=by rfl) (hpl:(backTo pos (starEach es X.env)).any (·.1)=false:=by rfl) :
  PE X (.Call (.Name x p) (e::es) [] pos) (ww sp dvs E t):=by
 intro pins s σ H Q I h;refine Qu (sq I hg hm ?_ hdb);refine Na (h₀:=X.base) I.ok.mod.kin hk (thn (ha pos pins s σ H _ I h) λus s1 ⟨vs,H1,I1,r,q⟩=>⟨I1.kIn,?_⟩) he hpl;exact yk F hr hb hd hx I1 r q
end
section
variable{X:Cx}{CX:CXT}{k:Nat}{f C:Addr}{fd:FuncData}{ps ks:List Str}{sp:Sp}{E:XK}{x m:Str}{p pos apos kpos:Pos}{e o:Expr}{es:List Expr}{kws:List Keyword}{te ta:TE}{t tk:TA}{nm:Option Str}
variable{g:List Value->List Value->List Value}{gV:List V->List V->List V}
end
structure FnScope (N P:List Str) (sc:Scope):Prop where
 kind:sc.kind=.function
 co:sc.isCoroutine=false
 gen:sc.isGenerator=false
 nd:N.Nodup
 pre:N.take P.length=P
 par:∀x∈P,sc.names.lookup x=some .local\/sc.names.lookup x=some .cell
 nofree:∀y∈sc.names,y.2≠.free
theorem mU{kindOf:Str->Option NameKind}{x:Str}:∀{binds:List (Str×Value)}{m:Str->Option Value},(∀v,(x,v)∉binds)->bindL kindOf binds m x=m x
 | [],_,_=>rfl
 | (n,v)::r,m,h=>by
  unfold bindL;rw[mU λw hw=>h w (Hn _ hw)];split
  ·have:x≠n:=by rintro rfl;exact h v Hl
   simp[this]
  ·rfl
theorem mV{kindOf:Str->Option NameKind}{x:Str}:∀{binds:List (Str×Value)}{m:Str->Option Value},(∀v,(x,v)∉binds)->bindC kindOf binds m x=m x
 | [],_,_=>rfl
 | (n,v)::r,m,h=>by
  unfold bindC;rw[mV λw hw=>h w (Hn _ hw)];split
  ·rfl
  ·have:x≠n:=by rintro rfl;exact h v Hl
   simp[this]
theorem mW{kindOf:Str->Option NameKind}{x:Str}{v:Value}:∀{P:List Str}{vs:List Value}{i:Nat}{m:Str->Option Value},P.Nodup->P[i]? = some x->vs[i]? = some v->kindOf x=some .local->
  bindL kindOf (P.zip vs) m x=some v
 | [],_,_,_,_,h,_,_=>by simp at h
 | _::_,[],_,_,_,_,h,_=>by simp at h
 | p::P,w::vs,0,m,nd,h1,h2,hk=>by
  simp at h1 h2;subst h1;subst h2;show bindL kindOf ((p,w)::P.zip vs) m p=_
  unfold bindL;rw[mU λv hv=>(Iw.mp nd).1 (Mj hv).1,if_pos hk];simp
 | p::P,w::vs,i+1,m,nd,h1,h2,hk=>by
  show bindL kindOf ((p,w)::P.zip vs) m x=_
  unfold bindL;exact mW (i:=i) (Iw.mp nd).2 (by simpa using h1) (by simpa using h2) hk
theorem mX{kindOf:Str->Option NameKind}{x:Str}{v:Value}:∀{P:List Str}{vs:List Value}{i:Nat}{m:Str->Option Value},P.Nodup->P[i]? = some x->vs[i]? = some v->kindOf x≠some .local->
  bindC kindOf (P.zip vs) m x=some v
 | [],_,_,_,_,h,_,_=>by simp at h
 | _::_,[],_,_,_,_,h,_=>by simp at h
 | p::P,w::vs,0,m,nd,h1,h2,hk=>by
  simp at h1 h2;subst h1;subst h2;show bindC kindOf ((p,w)::P.zip vs) m p=_
  unfold bindC;rw[mV λv hv=>(Iw.mp nd).1 (Mj hv).1,if_neg hk];simp
 | p::P,w::vs,i+1,m,nd,h1,h2,hk=>by
  show bindC kindOf ((p,w)::P.zip vs) m x=_
  unfold bindC;exact mX (i:=i) (Iw.mp nd).2 (by simpa using h1) (by simpa using h2) hk
noncomputable def start(N:List Str)(vs:List V):St:=vs.map some++GY (N.length - vs.length) none
noncomputable def yl(CX:CXT)(P:Program)(w:World)(K:GC)(mg:Str->Option Value)(base:Heap)(N:List Str)(qual:Str)(scope:Scope)(f:Addr)(cd:Value)(A:Around)(outer:List Env)(s:Shared)(H:Hp)(E:XK):Cx where
 prog:=P
 w:=w
 K:=K
 mg:=mg
 base:=base
 A:=A.deeper (envOfC qual scope s.heap.objs.size f cd)
 N:=N
 s₀:=s
 H₀:=H
 env:=envOfC qual scope s.heap.objs.size f cd
 outer:=outer
 stack:=envOfC qual scope s.heap.objs.size f cd::outer
 ex:=[]
 calm:=true
 fn:=λ_=>true
 pn:=[]
 xe:=λe s'=>wpAny (model P w) (A.deeper (envOfC qual scope s.heap.objs.size f cd)) (leaving (envOfC qual scope s.heap.objs.size f cd) e) (λ_ s''=>CX outer H s E e s'') (λe' s''=>CX outer H s E e' s'') s'
theorem pV{sc:Scope}{n:Nat}{x:Str}(h:sc.names.lookup x=some .cell):∃c,(cellsFrom n sc.names []).lookup x=some c:=by
 have q:=Ms sc.names n [] (.inl h);exact Ip.mp q
theorem sS{CX:CXT}{P:Program}{w:World}{K:GC}{mg:Str->Option Value}{base:Heap}{N ps:List Str}{qual:Str}{scope:Scope}{f:Addr}{cd:Value}{A:Around}{outer:List Env}{s s1:Shared}{H:Hp}{E:XK}{us:List Value}{vs:List V}
  (S:FnScope N ps scope) (hd:A.handled=none) (e0:Env0 P w K mg base A outer s H) (hl:vs.length=ps.length) (r:Vals vs us)
  (x:InCallC s s.heap.objs.size (bindL (envOfC qual scope s.heap.objs.size f cd).kindOf (ps.zip us) λ_=>none) (cellsFrom (s.heap.objs.size+1) scope.names []) (bindC (envOfC qual scope s.heap.objs.size f cd).kindOf (ps.zip us) λ_=>none) s1) :
  Inv (yl CX P w K mg base N qual scope f cd A outer s H E) [] (start N vs) H s1:=by
 have hpl:ps.length<=N.length:=by have:=congrArg Jz S.pre;rw[G5]at this;lia
 obtain⟨h1,tk,rfl,hk⟩:=x.done;have noA:∀b:Addr,b∉(yl CX P w K mg base N qual scope f cd A outer s H E).ex:=λb z=>absurd (show b∈([]:List Addr)from z) (by simp)
 refine⟨⟨e0.mod,S.kind,rfl,rfl,GF _,λy z c h1 h2=>?_,λy hy=>?_,λy c _ h=>?_,λ_=>hd,Around.frames_deeper e0.frames,.inr ⟨rfl,rfl⟩,λb z=>absurd z (noA b),e0.bs,e0.bsz,λb _ _=>noA b,λb z=>absurd z (noA b),e0.funs,e0.frf⟩,
  rfl,e0.bare,Un.kept hk,⟨_,x.toInCall.ns,λi y v h1 h2 h3=>?_⟩,λy c h=>⟨_,x.cell y c h⟩,e0.hok.fresh (GF _),λy c h=>?_,λp hp=>absurd (show p∈([]:List (Addr×Obj))from hp) (by simp),e0.hok.kept hk,?_⟩
 ·exact name_of_addr x.apart (IM h1) (IM h2)
 ·have hy:scope.names.lookup y=some .cell\/scope.names.lookup y=some .free:=hy
  rcases hy with hy|hy
  ·exact pV hy
  ·exact absurd rfl (S.nofree _ (IM hy))
 ·exact HK (x.above y c (IM h))
 ·have hi:i<vs.length:=by
   unfold start at h2;by_cases hi:i<vs.length
   ·exact hi
   ·rw[He (by simpa using hi)]at h2
    rw[Js]at h2;split at h2<;>cases h2
  have ha:vs[i]? = some v:=by
   unfold start at h2;rw[G6 (by simpa using hi),GE]at h2;cases e:vs[i]? with
   | none=>rw[e]at h2;cases h2
   | some a=>rw[e]at h2;cases h2;rfl
  obtain⟨u,hu,rv⟩:=r.get ha;have hp:ps[i]? = some y:=by
   rw[<-S.pre,JW ⋯];exact h1
  have ndP:ps.Nodup:=by rw[<-S.pre];exact S.nd.sublist (No _ _)
  refine⟨u,rv,?_⟩;rcases S.par y (Hc hp)with k|k
  ·exact .inl ⟨k,mW ndP hp hu k⟩
  ·obtain⟨c,e⟩:=pV (n:=s.heap.objs.size+1) k
   refine .inr ⟨.inl k,c,e,?_⟩;have q:=x.cell y c e;rw[mX ndP hp hu (by show scope.names.lookup y≠_;rw[k];decide)]at q;exact q
 ·exact e0.hok.fresh (HK (x.above y c (IM h)))
 ·unfold start
  show _=N.length
  rw[GZ,GA,IY];lia
theorem Bz{CX:CXT}{P:Program}{w:World}{K:GC}{mg:Str->Option Value}{base:Heap}{k:Nat}{f:Addr}{name qual:Str}{params:Arguments}{body:List Stmt}{scope:Scope}{dV kV doc pm cdv ct oc:Value}{an od:Option Addr}
  {osl:Array (Option Value)}{N ps:List Str}{sp:Sp}(lk:K.lookup f=some ⟨oc,od,.func (JD name qual params body scope dV kV doc pm an cdv ct),osl⟩) (hcd:K5 K cdv qual=true) (S:FnScope N ps scope)
  (len:∀vs H Q E,sp vs H Q E->vs.length=ps.length)
  (hbody:∀(A:Around) (outer:List Env) (s:Shared) (H:Hp) (vs:List V) (Q:VK) (E:XK),Room k (A.deeper (envOfC qual scope s.heap.objs.size f cdv))->sp vs H Q E->
   ∃t,PSs (yl CX P w K mg base N qual scope f cdv A outer s H E) body t/\t { nx:=λ_ H'=>Q .non H',rt:=Q } (start N vs) H) :
  FnOk P w K mg base CX (k+1) f (JD name qual params body scope dV kV doc pm an cdv ct) ps sp:=by
 refine⟨len,λA outer s H args us vs Q E hr e0 hb r hsp=>?_⟩;have hl:=len _ _ _ _ hsp;have KX:K.In s.heap:=e0.mod.kin.keeps λb o e=>(e0.bs b o e).1
 have lim:s.heap.NoLimit:=e0.mod.nolimit.keeps λb o e=>(e0.bs b o e).1
 have hkind:∀y∈ps.zip us,scope.names.lookup y.1=some .local\/(scope.names.lookup y.1=some .cell/\((cellsFrom (s.heap.objs.size+1) scope.names []).lookup y.1).isSome=true):=λ⟨n,v⟩ hy=>by
  rcases S.par n (Mj hy).1 with q|q
  ·exact .inl q
  ·exact .inr ⟨q,Ms _ _ _ (.inl q)⟩
 refine codeAny_call_function hr.depth (KX _ _ lk) rfl S.co S.gen rfl (PySem.W.codeRec_of KX hcd) (hb _ _ _ _ ?_);refine wpAny_newFunctionEnv_cells S.kind hkind λenv he s1 x=>?_
 subst he;refine⟨lim.keeps x.toInCall.keep,codeAny_func ?_⟩;obtain⟨t,ht,hq⟩:=hbody A outer s H vs Q E (hr.deeper _) hsp;have I:Inv (yl CX P w K mg base N qual scope f cdv A outer s H E) [] (start N vs) H s1:=sS S hr.hd e0 hl r x;refine P8 (ht [] s1 (start N vs) H _ I hq) (λfl s' hs=>?_) λe s' hs=>hs
 have fin:∀{σ':St}{H':Hp}{v:V}{u:Value},Inv (yl CX P w K mg base N qual scope f cdv A outer s H E) [] σ' H' s'->RelV v u->Q v H'->CE outer P w H s Q u s':=
  λ{σ' H' v u} J rv q=>⟨v,H',J.os,J.bare,J.base,J.hok,rv,q⟩
 cases fl with
 | ret u=>
  obtain⟨v,σ',H',J,rv,q⟩:=hs;exact fin J rv q
 | next=>
  obtain⟨σ',H',J,q⟩:=hs;exact fin (v:=V.non) (u:=Hf) J rfl q
 | brk=>
  obtain⟨_,_,_,q⟩:=hs;exact IG q
 | cont=>
  obtain⟨_,_,_,q⟩:=hs;exact IG q
section
variable{X:Cx}{x:Str}{p pos:Pos}{e:Expr}{es:List Expr}{t:TA}{id T:String}{r:List V->Hp->VK->Prop}
def tCB(r:List V->Hp->VK->Prop)(t:TA):TE:=λσ H Q=>t σ H λvs H1=>r vs H1 Q
theorem wx (hc:cx X (.builtin id) r) (hg:Gl X x) (hm:X.mg x=none) (hv:bootBuiltins x=some (.builtin id)) (ha:PA X (e::es) t) (hn:x≠"__name__":=by decide) (hdb:(x == ("__debug__" : Str))=false:=by decide)
  (he:starEach (e::es) X.env=(false,eval e X.env)::starEach es X.env:=by rfl) (hpl:(backTo pos (starEach es X.env)).any (·.1)=false:=by rfl):PE X (.Call (.Name x p) (e::es) [] pos) (tCB r t):=by
 intro pins s σ H Q I h;refine Qu (dh I hg hm hv ?_ hn hdb);exact NM (thn (ha pos pins s σ H _ I h) λus s1 ⟨vs,H1,I1,r1,q1⟩=>hc pins s1 σ H1 vs us Q I1 r1 q1) he hpl
theorem sT (hc:cx X (.type T) r) (hg:Gl X x) (hm:X.mg x=none) (hv:bootBuiltins x=some (.type T)) (ha:PA X (e::es) t) (hn:x≠"__name__":=by decide) (hdb:(x == ("__debug__" : Str))=false:=by decide)
  (he:starEach (e::es) X.env=(false,eval e X.env)::starEach es X.env:=by rfl) (hpl:(backTo pos (starEach es X.env)).any (·.1)=false:=by rfl):PE X (.Call (.Name x p) (e::es) [] pos) (tCB r t):=by
 intro pins s σ H Q I h;refine Qu (dh I hg hm hv ?_ hn hdb);exact Hz (thn (ha pos pins s σ H _ I h) λus s1 ⟨vs,H1,I1,r1,q1⟩=>hc pins s1 σ H1 vs us Q I1 r1 q1) he hpl
end
end L2
open L2.SqL renaming of→PP
open L2.SqT renaming of→PQ
open L2.V renaming int→PR,str→PU,ref→PY,ty→PZ
open PySem PySem.Spec PyProof.Rows L2
variable{Q E:Value->Shared->Prop}{ms:List Int}{items:Array Value}{l sl p a q S d it:Addr}{n j t' c i tk b m f C ep:Nat}{vl vu pm u:Value}{its vs us:List Value}{xs ys:List V}{σ:L2.St}{pins:List (Addr×Obj)}{h:Heap}{X:Cx}{st:Stmt}{x qual z:Str}{H1 H2 H':Hp}{o:HO}{v y:V}{fp ps ch qs:List Addr}{g:TG}{wi:TI}{pos pos' py spos lpos:Pos}{elt iter tg e cnd:Expr}{to ti ta:TE}{tb:TS}{ix zs cs ob row r:List Nat}{scope:Scope}{P:Program}{tc:TT}{rss:List (List Nat)}{D:Ends}
namespace HT
open PySem PyProof.Rows
noncomputable def aY:List Int->List Int->Bool
 | [],[]=>false
 | [],_::_=>true
 | _::_,[]=>false
 | x::xs,y::ys=>if x=y then aY xs ys else decide (x<y)
theorem bb(x y:Int)(xs ys:List Int):aY (x::xs) (y::ys)=if x=y then aY xs ys else decide (x<y):=rfl
theorem gE:aY [] []=false:=rfl
theorem kG(y:Int)(ys:List Int):aY [] (y::ys)=true:=rfl
theorem kH(x:Int)(xs:List Int):aY (x::xs) []=false:=rfl
theorem pW(A:Around)(s:Shared)(a:Int)(t:Tok)(c:Int)(u:Tok):∃e,SeqAt.EqAt A s (.int a t) (.int c u) e/\(e=true↔a=c):=
 ⟨(a == c),Py a t c u,by simp⟩
theorem wy(A:Around)(s:Shared)(a:Int)(t:Tok)(c:Int)(u:Tok)(prog:Program)(w:World)(E:Value->Shared->Prop)(Q:Value->Shared->Prop)(h:Q (.bool (decide (a<c))) s):
  wpAny (model prog w) A (richCompare .Lt (.int a t) (.int c u)) Q E s:=
 (Po h:wpAny (model prog w) A (Qc .Lt (.int a t) (.int c u)) Q E s)
section
open PySem.SeqAt
open PySem.AutoSeq1 (wpAny_loadPart')
open PySem.MeetsSeq PySem.MeetsSeq2 PySem.MeetsSeq3
theorem gF(l b:Addr)(items items2:Array Value)(n n2:Nat)(dd dd2:Option Addr)(sl sl2:Array (Option Value))(ns ms:List Int)(hi:P9 items.toList ns)(hj:P9 items2.toList ms):
  Meets (Builtin.«tuple.__lt__» ⟨[.ref l,.ref b],[]⟩)
   (λ_ R s=>s.heap.get? l=some { cls:=.type "tuple",dict:=dd,data:=.seq items n,slots:=sl }/\s.heap.get? b=some { cls:=.type "tuple",dict:=dd2,data:=.seq items2 n2,slots:=sl2 }/\
    R (.ok (.ret (.bool (aY ns ms)))) s):=
 .of_wp λprog w A R s h=>by
  obtain⟨hp,g,d,tk,os⟩:=s;obtain⟨hl,hb,h⟩:=h;have f2:=JX;have z1:items.size=ns.length:=by rw[<-hi.length];simp
  have z2:items2.size=ms.length:=by rw[<-hj.length];simp
  wp_walk using Qm hl,Qm hb,wpAny_forIn_list _ (λrest b s'=>b.1=none/\s'=⟨hp,g,d,tk,os⟩/\∃(vs ws:List Value) (ns' ms':List Int),rest=vs.zip ws/\
   P9 vs ns'/\P9 ws ms'/\ns'.length+items2.size=ms'.length+items.size/\R (.ok (.ret (.bool (aY ns' ms')))) ⟨hp,g,d,tk,os⟩) _
  case turn=>
   rintro⟨y,x⟩ rest b s' ⟨hb',rfl,vs,ws,ns',ms',hz,hvi,hwi,hlen,hR⟩;cases hvi with
   | nil=>rw[Lu]at hz;cases hz
   | cons a t hvi'=>
    cases hwi with
    | nil=>rw[K9]at hz;cases hz
    | cons c u hwi'=>
     rw[IC]at hz;injection hz with hyx hrest
     injection hyx with hy hx
     subst hy hx;rw[bb]at hR;simp only[Hh]at hlen;obtain⟨e,he,hiff⟩:=pW A.in1 ⟨hp,g,d,tk,os⟩ a t c u;refine P2 (he prog w _ _ ?_);cases e with
     | true=>
      rw[if_pos (hiff.mp rfl)]at hR
      wp_walk
      exact⟨rfl,rfl,_,_,_,_,hrest,hvi',hwi',by lia,hR⟩
     | false=>
      rw[if_neg (λq=>absurd (hiff.mpr q) G3)]at hR;have hri:=wy A.in1 ⟨hp,g,d,tk,os⟩ a t c u prog w
      wp_walk using hri
      exact⟨_,rfl,by simpa using hR⟩
  case fin=>
   rintro⟨b1,b2⟩ s' ⟨hb',rfl,vs,ws,ns',ms',hz,hvi,hwi,hlen,hR⟩;simp only at hb';subst hb';have hv:aY ns' ms'=decide (items.size<items2.size):=by
    cases hvi with
    | nil=>
     cases hwi with
     | nil=>
      simp only[Ie]at hlen;rw[gE];exact(decide_eq_false ⋯).symm
     | cons c u hw=>
      simp only[Ie,Hh]at hlen;rw[kG];exact(decide_eq_true ⋯).symm
    | cons a t hv=>
     cases hwi with
     | nil=>
      simp only[Ie,Hh]at hlen;rw[kH];exact(decide_eq_false ⋯).symm
     | cons c u hw=>
      rw[IC]at hz;cases hz
   rw[hv]at hR
   wp_walk
   exact⟨_,rfl,by simpa [KF]using hR⟩
  case h=>
   exact⟨rfl,rfl,items.toList,items2.toList,ns,ms,rfl,hi,hj,by lia,h⟩
end
section
variable{prog:Program}{w:World}{A:Around}{E:Value->Shared->Prop}{s:Shared}
theorem q8{b:Addr}{items2:Array Value}{ns:List Int}(hl:IsTup s.heap l items)(hb:IsTup s.heap b items2)(hi:P9 items.toList ns)(hj:P9 items2.toList ms)
  (hu:A.units<cLine) (h:Q (.bool (aY ns ms)) s):wpAny (model prog w) A (Qc .Lt (.ref l) (.ref b)) Q E s:=by
 obtain⟨⟨cls,dd,data,sl⟩,ho,hc,n,hd⟩:=id hl;obtain⟨⟨cls2,dd2,data2,sl2⟩,ho2,hc2,n2,hd2⟩:=id hb;simp only at hc hd hc2 hd2;subst hc hd hc2 hd2;exact richCompare_meets_room (op:=.Lt) ⟨_,ho,rfl⟩ ⟨_,ho2,rfl⟩ KB Mt (L0 _ _) (gF l b items items2 n n2 dd dd2 sl sl2 ns ms hi hj)
  ⟨ho,ho2,show Jc (aY ns ms)≠MQ/\Q (.bool (aY ns ms)) s from⟨(λx=>nomatch x),h⟩⟩ hu
noncomputable def sIx(n d:Nat):Option Int->Nat
 | none=>d
 | some v=>if v<0 then(v+(n:Int)).toNat else min v.toNat n
theorem pX(n d:Nat):sIx n d none=d:=rfl
theorem fZ(n d k:Nat):sIx n d (some (k:Int))=min k n:=by
 show(if(k:Int)<0 then((k:Int)+(n:Int)).toNat else min (k:Int).toNat n)=min k n
 rw[if_neg ⋯,HQ]
theorem BA(n d:Nat)(hd:d<=n)(o:Option Int):sIx n d o<=n:=by
 cases o with
 | none=>exact hd
 | some v=>
  show(if v<0 then(v+(n:Int)).toNat else min v.toNat n)<=n
  by_cases hv:v<0
  ·rw[if_pos hv];lia
  ·rw[if_neg hv];exact Nat.min_le_right _ _
theorem sU(v:Int)(n d:Nat):(if v<0 then max (v+(n:Int)) 0 else min v (n:Int))=((sIx n d (some v):Nat):Int):=by
 show(if v<0 then max (v+(n:Int)) 0 else min v (n:Int))=(((if v<0 then(v+(n:Int)).toNat else min v.toNat n):Nat):Int)
 by_cases hv:v<0
 ·simp only[if_pos hv];lia
 ·simp only[if_neg hv];lia
theorem q9(lo hi:Option Int)(n:Nat):JU lo hi 1 (n:Int)=(((sIx n 0 lo:Nat):Int),((sIx n n hi:Nat):Int)):=by
 have h1:¬((1:Int)<0):=by lia
 unfold JU;simp only[h1,if_false];refine Prod.ext ?_ ?_
 ·cases lo with
  | none=>rfl
  | some v=>exact sU v n 0
 ·cases hi with
  | none=>rfl
  | some v=>exact sU v n n
theorem rb(i j:Nat):Jd (i:Int) (j:Int) 1=j - i:=by
 unfold Jd;have h1:(1:Int) > 0:=by lia
 simp only[h1,if_true,ON];split<;>lia
theorem kT{v:Value}{o:Option Int}{Q:Option Int->Shared->Prop}(p:IsPart v o)(h:Q o s):wpAny (model prog w) A (N2 v) Q E s:=by
 cases p with
 | none=>exact slicePart_none h
 | int i t=>exact slicePart_int h
theorem eR{lo hi:Option Int}{Q:Int×Int×Nat->Shared->Prop}(hs:s.heap.IsSliceOf sl vl vu .none)(pl:IsPart vl lo)(pu:IsPart vu hi)
  (h:Q (((sIx n 0 lo:Nat):Int),1,sIx n n hi - sIx n 0 lo) s):wpAny (model prog w) A (Lk (.ref sl) (pure (n:Int))) Q E s:=by
 obtain⟨os,hos,hcs,hds⟩:=id hs;unfold Lk Ov;refine P2 (P2 (Qj hos hds (x:=vl) rfl (P2 (Qj hos hds (x:=vu) rfl (P2 (Qj hos hds (x:=.none) rfl (P3 ?_)))))));refine P2 (slicePart_none ?_);show wpAny _ _ (if((1:Int) == 0)=true then _ else _) _ _ s
 rw[if_neg (by decide)];refine P2 (kT pl (P2 (kT pu (P2 (P3 ?_)))));show wpAny _ _ (match JU lo hi 1 (n:Int)with|(lo,hi)=>pure (lo,(1:Int),Jd lo hi 1)) _ _ s
 rw[q9 lo hi n];show wpAny _ _ (pure (((sIx n 0 lo:Nat):Int),(1:Int),Jd ((sIx n 0 lo:Nat):Int) ((sIx n n hi:Nat):Int) 1)) _ _ s
 rw[rb];exact P3 h
theorem wz(xs:Array Value)(i k:Nat):((GH k).filterMap λ(m:Nat)=>xs[((i:Int)+(m:Int)*1).toNat]?).toArray=((xs.toList.drop i).take k).toArray:=by
 have e:(λ(m:Nat)=>xs[((i:Int)+(m:Int)*1).toNat]?)=λm=>xs[i+m]?:=by
  funext m
  have:((i:Int)+(m:Int)*1).toNat=i+m:=by lia
  rw[this]
 rw[e];have:=pick_run xs i k;rw[List.filterMap_map]at this;have e2:((λx=>xs[x]?)∘λx=>i+x)=λm=>xs[i+m]?:=rfl
 rw[e2]at this;rw[this]
theorem il{t:Addr}{lo hi:Option Int}(ht:IsTup s.heap t items)(hs:s.heap.IsSliceOf sl vl vu .none)(pl:IsPart vl lo)(pu:IsPart vu hi)
  (hw:¬(sIx items.size 0 lo=0/\sIx items.size items.size hi=items.size))
  (h:Q (.ref s.heap.objs.size) { s with heap:=s.heap.push { cls:=.type "tuple",data:=.seq ((items.toList.drop (sIx items.size 0 lo)).take (sIx items.size items.size hi - sIx items.size 0 lo)).toArray } })
  (hsz:items.size<=P4):wpAny (model prog w) A (getItem (.ref t) (.ref sl)) Q E s:=by
 have htake:sizeOk (.seq ((items.toList.drop (sIx items.size 0 lo)).take (sIx items.size items.size hi - sIx items.size 0 lo)).toArray):=by
  show((items.toList.drop (sIx items.size 0 lo)).take (sIx items.size items.size hi - sIx items.size 0 lo)).toArray.size<=P4
  rw[GO,G5,Ig,Ii];lia
 have hj:sIx items.size items.size hi<=items.size:=BA _ _ (GF _) hi;obtain⟨os,hos,hcs,hds⟩:=id hs;have hTs:s.TypeIs (.ref sl) "slice":=⟨os,hos,hcs⟩;unfold getItem
 try with_reducible refine P7 ?_
 first|refine P2 (P3 ?_)|skip
 refine P2 (wpAny_sequenceKey ht.typeIs (by decide) ?_);refine P2 (Qk (name:=Hi "__getitem__") ht.typeIs HZ
  (Qg HZ ht.typeIs entry_tuple_getitem ?_ (args_tuple_getitem _ _)))
 show wpAny _ _ (Ll (.ref t) >>= _) _ _ s
 refine P2 (tupleItemsOf_ ht ?_);refine P2 (QF hTs ?_);rw[if_pos (by decide)];refine P2 (eR hs pl pu ?_);have hno:¬((((sIx items.size 0 lo:Nat):Int) == 0 && (1:Int) == 1 && (sIx items.size items.size hi - sIx items.size 0 lo) == items.size)=true):=by
  intro q;rw[Iq,Iq]at q;have q1:((sIx items.size 0 lo:Nat):Int)=0:=eq_of_beq q.1.1;have q2:sIx items.size items.size hi - sIx items.size 0 lo=items.size:=eq_of_beq q.2;exact hw ⟨by lia,by lia⟩
 show wpAny _ _ (if(((sIx items.size 0 lo:Nat):Int) == 0 && (1:Int) == 1 && (sIx items.size items.size hi - sIx items.size 0 lo) == items.size)=true then _ else _) _ _ s
 rw[if_neg hno,wz]
 first
  | exact P2 (m:=Ji _) (P5 (P3 ⟨_,rfl,P3 h⟩) htake)
  | exact P2 (m:=Ji _) (P5 (P2 (P3 (P3 ⟨_,rfl,P3 h⟩))) htake)
  | exact P2 (P2 (m:=Ji _) (P5 (P3 (P3 ⟨_,rfl,P3 h⟩)) htake))
  | exact P2 (P2 (m:=Ji _) (P5 (P3 ⟨_,rfl,P3 h⟩) htake))
end
end HT
namespace L2
open PySem PySem.Spec PyProof.Rows
noncomputable abbrev TO:=St->Hp->(Option Int->Hp->Prop)->Prop
def PO(X:Cx)(e:Option Expr)(t:TO):Prop:=
 ∀(pins:List (Addr×Obj)) (s:Shared) (σ:St) (H:Hp) (Q:Option Int->Hp->Prop),Inv X pins σ H s->t σ H Q->
  wpAny (model X.prog X.w) X.A (evalPart e X.env) (λu s'=>∃o H',Inv X pins σ H' s'/\IsPart u o/\Q o H') X.xe s
noncomputable def oF:TO:=λ_ H Q=>Q none H
noncomputable def zq(t:TE):TO:=λσ H Q=>t σ H λx H1=>∃i,x=.int i/\Q (some i) H1
theorem bF{ns:List Int}:∀{us:List Value},Vals (ns.map PR) us->P9 us ns:=by
 induction ns with
 | nil=>intro us r;rw[KI]at r;cases r;exact .nil
 | cons n ns ih=>
  intro us r;rw[Hg]at r;cases r with
  | cons r1 r2=>
   obtain⟨t,e⟩:=r1;subst e;exact .cons n t (ih r2)
section
variable{X:Cx}{e:Expr}{te:TE}{lo hi:Option Expr}{tl th:TO}{pos p2:Pos}
theorem zr:PO X none oF:=by
 intro pins s σ H Q I h;rw[evalPart_none];exact P3 ⟨none,H,I,.none,h⟩
theorem zt(h:PE X e te):PO X (some e) (zq te):=by
 intro pins s σ H Q I hw;rw[evalPart_some];refine thn (h pins s σ H _ I hw) λu s1 ⟨x,H1,I1,r1,q1⟩=>?_
 obtain⟨i,rfl,q⟩:=q1;obtain⟨t,rfl⟩:=r1;exact⟨some i,H1,I1,.int i t,q⟩
def SlR(X:Cx)(r:V->Option Int->Option Int->Hp->VK->Prop):Prop:=
 ∀(pins:List (Addr×Obj)) (s:Shared) (σ:St) (H:Hp) (x:V) (v vl vu:Value) (lo hi:Option Int) (sl:Addr) (Q:VK),Inv X pins σ H s->RelV x v->s.heap.IsSliceOf sl vl vu .none->IsPart vl lo->IsPart vu hi->r x lo hi H Q->
  ∃T id,typeLookup (.type T) "__getitem__" = pure (some (.builtin id))/\s.TypeIs v T/\wpAny (model X.prog X.w) X.A (getItem v (.ref sl)) (EP X pins σ Q) X.xe s
def tSl(r:V->Option Int->Option Int->Hp->VK->Prop)(te:TE)(tl th:TO):TE:=λσ H Q=>te σ H λx H1=>tl σ H1 λl H2=>th σ H2 λu H3=>r x l u H3 Q
theorem wA{r:V->Option Int->Option Int->Hp->VK->Prop}(hr:SlR X r)(he:PE X e te)(hl:PO X lo tl)(hu:PO X hi th):PE X (.Subscript e (.Slice lo hi none p2) pos) (tSl r te tl th):=by
 intro pins s σ H Q I h;refine Subscript_ (thn (he pins s σ H _ I h) λv s1 ⟨x,H1,I1,r1,q1⟩=>?_);refine wpAny_Slice (thn (hl pins s1 σ H1 _ I1 q1) λvl s2 ⟨l,H2,I2,pl,q2⟩=>thn (hu pins s2 σ H2 _ I2 q2) λvu s3 ⟨u,H3,I3,pu,q3⟩=>?_);rw[evalPart_none];refine P3 ?_;have I4:Inv X pins σ H3 { s3 with heap:=s3.heap.push { cls:=.type "slice",data:=.fields #[vl,vu,.none] } }:=I3.kept (t':=s3.toks) λb ob q=>GD _ q
 obtain⟨T,id,hT,ht,hg⟩:=hr pins { s3 with heap:=s3.heap.push { cls:=.type "slice",data:=.fields #[vl,vu,.none] } } σ H3 x v vl vu l u s3.heap.objs.size Q I4 r1 (La ..) pl pu q3;show wpAny (model X.prog X.w) X.A (subscriptTail e (.Slice lo hi none p2) v (.ref s3.heap.objs.size)) (EP X pins σ Q) X.xe { s3 with heap:=s3.heap.push { cls:=.type "slice",data:=.fields #[vl,vu,.none] } }
 exact tail_any (ops:=[.ref s3.heap.objs.size,v]) ht hT hg (by with_unfolding_all rfl)
noncomputable def kU(xs:List V)(lo hi:Option Int):List V:=(xs.drop (HT.sIx xs.length 0 lo)).take (HT.sIx xs.length xs.length hi - HT.sIx xs.length 0 lo)
theorem ju(xs:List V)(lo hi:Option Int):(kU xs lo hi).length<=xs.length:=by
 unfold kU;rw[G5,Ig];lia
def FM(K:GC):V->Option Int->Option Int->Hp->VK->Prop:=λx lo hi H Q=>∃a xs,x=.ref a/\SqT K H a xs/\
 ¬(HT.sIx xs.length 0 lo=0/\HT.sIx xs.length xs.length hi=xs.length)/\∀p,H p=none->Q (.ref p) (upd H p (.tup (kU xs lo hi)))
theorem BB:SlR X (FM X.K):=by
 intro pins s σ H x v vl vu lo hi sl Q I rx hs pl pu h;obtain⟨a,xs,rfl,hx,hw,q⟩:=h;cases rx;obtain⟨its,r,ht,hz⟩:=I.tuple hx;have hlen:its.toArray.size=xs.length:=by rw[GO];exact r.length.symm
 refine⟨"tuple",_,HZ.lookup,ht.typeIs,?_⟩;refine HT.il ht hs pl pu (by rw[hlen];exact hw) ?_ (by rw[hlen];exact hz);rw[hlen];refine⟨.ref s.heap.objs.size,_,I.laid (t':=s.toks) (o:=.tup (kU xs lo hi)) (λb ob q=>GD _ q) (GF _) ?_,rfl,q _ (I.hok.fresh (GF _))⟩;exact⟨HJ (ju xs lo hi) hz,_,(r.drop (HT.sIx xs.length 0 lo)).take (HT.sIx xs.length xs.length hi - HT.sIx xs.length 0 lo),N8 _ _⟩
end
noncomputable def ixN(n:Nat)(i:Int):Option Nat:=if 0<=i then(if i<n then some i.toNat else none)else if -(n:Int)<=i then some (i+n).toNat else none
noncomputable def atI{α:Type}(xs:List α)(i:Int):Option α:=(ixN xs.length i).bind λj=>xs[j]?
theorem sV{i:Int}(h:ixN n i=some j):seqIndex? i n=some j/\j<n/\-(n:Int)<=i/\i<n:=by
 unfold ixN at h;by_cases h0:0<=i
 ·rw[if_pos h0]at h
  by_cases h1:i<n
  ·rw[if_pos h1]at h
   have e:i.toNat=j:=G8 h;exact⟨by rw[seqIndex_of h0 h1,e],by lia,by lia,h1⟩
  ·rw[if_neg h1]at h;cases h
 ·rw[if_neg h0]at h
  by_cases h1:-(n:Int)<=i
  ·rw[if_pos h1]at h
   have e:(i+n).toNat=j:=G8 h;exact⟨by rw[seqIndex_neg ⋯ h1,e],by lia,h1,by lia⟩
  ·rw[if_neg h1]at h;cases h
theorem oG{α:Type}{xs:List α}{i:Int}{v:α}(h:atI xs i=some v):∃j,seqIndex? i xs.length=some j/\xs[j]? = some v/\j<xs.length/\-(xs.length:Int)<=i/\i<xs.length:=by
 unfold atI at h;cases e:ixN xs.length i with
 | none=>rw[e]at h;cases h
 | some j=>
  rw[e]at h;obtain⟨h1,h2,h3,h4⟩:=sV e;exact⟨j,h1,h,h2,h3,h4⟩
theorem aU{α:Type}{xs:List α}{v:α}(h:xs[j]? = some v):atI xs (j:Int)=some v:=by
 have hj:j<xs.length:=(GQ.mp h).1;have e:ixN xs.length (j:Int)=some j:=by
  unfold ixN;rw[if_pos ⋯,if_pos ⋯];simp
 unfold atI;rw[e];exact h
def sW(b:Expr):Prop:=∀o i,subscripted b false o i=operate [o,i] (getItem o i)
def IxR(X:Cx)(r:R2):Prop:=
 ∀(value slice:Expr) (pins:List (Addr×Obj)) (s:Shared) (σ:St) (H:Hp) (x y:V) (v u:Value) (Q:VK),Inv X pins σ H s->RelV x v->RelV y u->r x y H Q->
  subscripted slice false v u=operate [v,u] (getItem v u)->wpAny (model X.prog X.w) X.A (subscriptTail value slice v u) (EP X pins σ Q) X.xe s
def MtR(X:Cx)(id:String)(r:V->List V->Hp->VK->Prop):Prop:=
 ∀(pins:List (Addr×Obj)) (s:Shared) (σ:St) (H:Hp) (x:V) (xs:List V) (v:Value) (us:List Value) (Q:VK),Inv X pins σ H s->RelV x v->Vals xs us->r x xs H Q->
  wpAny (model X.prog X.w) X.A (call (.builtin id) (v::us)) (EP X pins σ Q) X.xe s
section
variable{X:Cx}{a b:Expr}{ta tb:TE}{pos:Pos}
theorem IxR.or{r r':R2}(h:IxR X r)(h':IxR X r'):IxR X (λx y H Q=>r x y H Q\/r' x y H Q):=by
 intro value slice pins s σ H x y v u Q I rx ry q hs;rcases q with q|q
 ·exact h value slice pins s σ H x y v u Q I rx ry q hs
 ·exact h' value slice pins s σ H x y v u Q I rx ry q hs
theorem D5{r:R2}(hr:IxR X r)(ha:PE X a ta)(hb:PE X b tb)(hs:sW b):PE X (.Subscript a b pos) (tOp r ta tb):=by
 intro pins s σ H Q I h;exact Subscript_ (DO ha hb I h λv u s2 x y H2 I2 rx ry q=>hr a b pins s2 σ H2 x y v u Q I2 rx ry q (hs _ _))
def BC(K:GC):R2:=λx y H Q=>∃p xs i v,x=.ref p/\y=.int i/\SqL K H p xs/\atI xs i=some v/\Q v H
def BD(K:GC):R2:=λx y H Q=>∃p xs i v,x=.ref p/\y=.int i/\SqT K H p xs/\atI xs i=some v/\Q v H
def D6:R2:=λx y H Q=>∃z i c,x=.str z/\y=.int i/\z.length<=P4/\atI z.cps.toList i=some c/\Q (.str ⟨#[c]⟩) H
theorem ix_list:IxR X (BC X.K):=by
 intro value slice pins s σ H x y v u Q I rx ry h hs;obtain⟨p,xs,i,z,rfl,rfl,hq,he,q⟩:=h;cases rx;obtain⟨t,rfl⟩:=ry;obtain⟨its,r,pl,hz⟩:=I.list hq;obtain⟨j,h1,h2,h3,h4,h5⟩:=oG he;obtain⟨w,ew,rw'⟩:=r.get h2;have hl:=r.length;have hn:=gC;have fin:EP X pins σ Q w s:=⟨z,H,I,rw',q⟩;by_cases h0:0<=i
 ·have hj:i.toNat=j:=by
   rw[seqIndex_of h0 h5]at h1;exact G8 h1
  exact item_listR pl.isList h0 ⋯ (by rw[hj];simpa using ew) fin hs
 ·have hj:(i+(its.toArray.size:Int)).toNat=j:=by
   rw[seqIndex_neg ⋯ h4]at h1;rw[GO,<-hl];exact G8 h1
  exact subscriptTail_builtinR (x:=w) pl.isList.typeIs slot_list_getitem.lookup
   (wpAny_getItem_list_neg (Q:=λr s'=>r=w/\EP X pins σ Q r s') pl.isList ⋯ (by rw[GO]<;>lia) ⋯ (by rw[hj];simpa using ew) ⟨rfl,fin⟩) hs
theorem ix_tup:IxR X (BD X.K):=by
 intro value slice pins s σ H x y v u Q I rx ry h hs;obtain⟨p,xs,i,z,rfl,rfl,hq,he,q⟩:=h;cases rx;obtain⟨t,rfl⟩:=ry;obtain⟨its,r,pl,hz⟩:=I.tuple hq;obtain⟨j,h1,h2,h3,h4,h5⟩:=oG he;obtain⟨w,ew,rw'⟩:=r.get h2;have hl:=r.length;have hn:=gC;have fin:EP X pins σ Q w s:=⟨z,H,I,rw',q⟩;exact subscriptTail_builtinR (x:=w) pl.typeIs slot_tuple_getitem.lookup
  (getItem_tuple (j:=j) (Q:=λr s'=>r=w/\EP X pins σ Q r s') pl ⋯ ⋯ (by rw[GO,<-hl];exact h1) (by simpa using ew) ⟨rfl,fin⟩) hs
theorem ym:IxR X D6:=by
 intro value slice pins s σ H x y v u Q I rx ry h hs;obtain⟨z,i,c,rfl,rfl,hz,he,q⟩:=h;obtain⟨t,rfl⟩:=rx;obtain⟨t',rfl⟩:=ry;obtain⟨j,h1,h2,h3,h4,h5⟩:=oG he;have hl:z.cps.toList.length=z.length:=by simp[Lx]
 rw[hl]at h1 h4 h5;have hn:=gC;exact tail_any (typeIs_str s z t) slot_str_getitem.lookup (getItem_str (c:=c) (by
  have e1:decide (i < -(2 ^ 63:Int))=false:=decide_eq_false ⋯;have e2:decide (i>=2 ^ 63)=false:=decide_eq_false ⋯;rw[e1,e2,Oa]) (by rw[h1];simpa using h2) ⟨.str ⟨#[c]⟩,H,I.tok _,⟨_,rfl⟩,q⟩) hs
def rIx(K:GC):R2:=λx y H Q=>BC K x y H Q\/BD K x y H Q\/D6 x y H Q
theorem BE:IxR X (rIx X.K):=ix_list.or (ix_tup.or ym)
theorem re (its:List Value) (n j:Nat) (u:Value):Hd (·.setIfInBounds j u) { cls:=.type "list",data:=.seq its.toArray n }={ cls:=.type "list",data:=.seq (its.set j u).toArray n }:=by
 simp[Hd]
theorem Inv.lst{pins:List (Addr×Obj)}{σ:St}{H:Hp}{s:Shared}{p:Addr}{xs:List V}(I:Inv X pins σ H s)(h:H p=some (.lst xs)):
  ∃(its:List Value) (n:Nat),Vals xs its/\s.heap.get? p=some { cls:=.type "list",data:=.seq its.toArray n }/\xs.length<=P4:=by
 obtain⟨z,its,n,r,e⟩:=I.hok p _ h;exact⟨its,n,r,e,z⟩
theorem Inv.lstUpd{H:Hp}{s:Shared}{its':List Value}{n':Nat}{f:Obj->Obj}(I:Inv X pins σ H s)(h:H p=some (.lst xs))
  (ho:s.heap.get? p=some { cls:=.type "list",data:=.seq its.toArray n }) (hf:f { cls:=.type "list",data:=.seq its.toArray n }={ cls:=.type "list",data:=.seq its'.toArray n' }) (r:Vals ys its') (hz:ys.length<=P4) (t:Nat) :
  Inv X pins σ (upd H p (.lst ys)) { s with heap:=s.heap.update p f,toks:=t }:=by
 have e:(s.heap.update p f).get? p=some { cls:=.type "list",data:=.seq its'.toArray n' }:=by
  rw[IZ f ho (by rw[hf]<;>rfl),hf]
 refine I.write (x:=p) (e:=p) (by rw[h];trivial) (.inl rfl) (λb u hb q=>(Il _ _ (Hx hb)).trans q) ⟨_,e⟩ ?_;exact⟨hz,its',n',r,e⟩
def rf:V->V->V->Hp->(Hp->Prop)->Prop:=λo i v H Q=>∃p xs k j,o=.ref p/\i=.int k/\H p=some (.lst xs)/\ixN xs.length k=some j/\Q (upd H p (.lst (xs.set j v)))
theorem lw:DH X rf:=by
 intro pins s σ H o i v ov iv u Q I ro ri rv h;obtain⟨p,xs,k,j,rfl,rfl,hp,hj,q⟩:=h;cases ro;obtain⟨t,rfl⟩:=ri;obtain⟨its,n,r,ho,hz⟩:=I.lst hp;obtain⟨h1,h2,h3,h4⟩:=sV hj;have hl:=r.length;have hn:=gC;have I':Inv X pins σ (upd H p (.lst (xs.set j v))) { s with heap:=s.heap.update p (Hd (·.setIfInBounds j u)) }:=
  I.lstUpd hp ho (re its n j u) (r.set rv j) (by rw[Mk];exact hz) s.toks
 by_cases h0:0<=k
 ·have hk:k.toNat=j:=by
   rw[seqIndex_of h0 h4]at h1;exact G8 h1
  exact PySem.W.ki_setAt ho h0 ⋯ (by rw[GO,<-hl];exact h4) (by rw[hk];exact⟨_,I',q⟩)
 ·have hk:(k+(its.toArray.size:Int)).toNat=j:=by
   rw[seqIndex_neg ⋯ h3]at h1;rw[GO,<-hl];exact G8 h1
  exact PySem.W.ki_setBack ho ⋯ (by rw[GO,<-hl];exact h3) ⋯ (by rw[hk];exact⟨_,I',q⟩)
theorem mY(lo hi:Option Int)(n:Nat):(QD lo hi none n).1=((HT.sIx n 0 lo:Nat):Int)/\(QD lo hi none n).2.1=((HT.sIx n n hi:Nat):Int)/\(QD lo hi none n).2.2=1:=by
 refine⟨?_,?_,rfl⟩
 ·cases lo with
  | none=>simp[QD,HT.sIx]
  | some i=>
   simp only[QD,HT.sIx,LI,show(1:Int) > 0 by decide,if_true];by_cases h:i<0
   ·simp only[h,if_true]<;>lia
   ·simp only[h,if_false]<;>lia
 ·cases hi with
  | none=>simp[QD,HT.sIx]
  | some i=>
   simp only[QD,HT.sIx,LI,show(1:Int) > 0 by decide,if_true];by_cases h:i<0
   ·simp only[h,if_true]<;>lia
   ·simp only[h,if_false]<;>lia
theorem lx(its:List Value)(lo hi:Option Int):slicePick its.toArray lo hi none=((its.drop (HT.sIx its.length 0 lo)).take (HT.sIx its.length its.length hi - HT.sIx its.length 0 lo)).toArray:=by
 obtain⟨h1,h2,h3⟩:=mY lo hi its.toArray.size;unfold slicePick;rw[h1,h2,h3];simp only[sliceRange_one,pick_run,GO]<;>rfl
def Df(K:GC):V->Option Int->Option Int->Hp->VK->Prop:=λx lo hi H Q=>∃a xs,x=.ref a/\SqL K H a xs/\∀p,H p=none->Q (.ref p) (upd H p (.lst (kU xs lo hi)))
theorem zu:SlR X (Df X.K):=by
 intro pins s σ H x v vl vu lo hi sl Q I rx hs pl pu h;obtain⟨a,xs,rfl,hx,q⟩:=h;cases rx;obtain⟨its,r,ht,hz⟩:=I.list hx;have hlen:=r.length;refine⟨"list",_,slot_list_getitem.lookup,ht.isList.typeIs,?_⟩;refine wpAny_getItem_list_slice ht.isList hs pl pu .none (by simp) ?_ (by rw[GO]<;>lia);rw[lx,<-hlen];refine⟨.ref s.heap.objs.size,_,I.laid (t':=s.toks) (o:=.lst (kU xs lo hi)) (λb ob q=>GD _ q) (GF _) ?_,rfl,q _ (I.hok.fresh (GF _))⟩;exact⟨HJ (ju xs lo hi) hz,_,0,(r.drop (HT.sIx xs.length 0 lo)).take (HT.sIx xs.length xs.length hi - HT.sIx xs.length 0 lo),GT _ rfl⟩
theorem mZ:cx X (.builtin "len") (λxs H Q=>∃p ys,xs=[.ref p]/\(SqL X.K H p ys\/SqT X.K H p ys)/\Q (.int ys.length) H):=by
 intro pins s σ H xs us Q I r h;obtain⟨p,ys,rfl,hq,q⟩:=h;obtain⟨u,rfl,rx⟩:=gD r;cases rx;have hn:=gC;rcases hq with hq|hq
 ·obtain⟨its,r',pl,hz⟩:=I.list hq
  have hlen:=r'.length;exact Calls.call_len_list pl.isList (by simp only[GO]<;>lia) ⟨.int ys.length,H,I.tok _,⟨s.toks+1,by rw[GO,hlen]⟩,q⟩
 ·obtain⟨its,r',pl,hz⟩:=I.tuple hq
  have hlen:=r'.length;exact len_tuple pl (by simp only[GO]<;>lia) ⟨.int ys.length,H,I.tok _,⟨s.toks+1,by rw[GO,hlen]⟩,q⟩
theorem m4:cx X (.builtin "len") (λxs H Q=>∃z,xs=[.str z]/\z.length<=P4/\Q (.int z.length) H):=by
 intro pins s σ H xs us Q I r h;obtain⟨z,rfl,hz,q⟩:=h;obtain⟨u,rfl,t,rfl⟩:=gD r;have hn:=gC;exact len_str ⋯ ⟨.int z.length,H,I.tok _,⟨_,rfl⟩,q⟩
theorem m5:cx X (.type "list") (λxs H Q=>∃p ys,xs=[.ref p]/\(SqL X.K H p ys\/SqT X.K H p ys)/\∀l,H l=none->Q (.ref l) (upd H l (.lst ys))):=by
 intro pins s σ H xs us Q I r h;obtain⟨p,ys,rfl,hq,q⟩:=h;obtain⟨u,rfl,rx⟩:=gD r;cases rx;have fin:∀(its:List Value),Vals ys its->ys.length<=P4->∀(h':Heap) (c':Nat),(∀b o',s.heap.get? b=some o'->h'.get? b=some o')->
   h'.get? s.heap.objs.size=some { cls:=.type "list",dict:=none,data:=.seq its.toArray c',slots:=#[] }->EP X pins σ Q (.ref s.heap.objs.size) { s with heap:=h' }:=λits r' hz h' c' kp e=>
  ⟨.ref s.heap.objs.size,_,I.laid (t':=s.toks) kp (GF _) (show ObjOk X.prog X.w _ h' _ (.lst ys)from⟨hz,its,c',r',e⟩),rfl,q _ (I.hok.fresh (GF _))⟩
 rcases hq with hq|hq
 ·obtain⟨its,r',pl,hz⟩:=I.list hq
  have hlen:=r'.length;obtain⟨o,ho,hc,n,hd⟩:=pl.isList;exact call_list_seq p (.inl rfl) ho hc hd (λh' c' kp e=>fin its r' hz h' c' kp e) (by simp only[GO]<;>lia)
 ·obtain⟨its,r',pl,hz⟩:=I.tuple hq
  have hlen:=r'.length;obtain⟨o,ho,hc,n,hd⟩:=pl;exact call_list_seq p (.inr rfl) ho hc hd (λh' c' kp e=>fin its r' hz h' c' kp e) (by simp only[GO]<;>lia)
theorem ly:cx X (.type "tuple") (λxs H Q=>∃p ys,xs=[.ref p]/\((SqL X.K H p ys/\∀l,H l=none->Q (.ref l) (upd H l (.tup ys)))\/(SqT X.K H p ys/\Q (.ref p) H))):=by
 intro pins s σ H xs us Q I r h;obtain⟨p,ys,rfl,h⟩:=h;obtain⟨u,rfl,rx⟩:=gD r;cases rx;rcases h with⟨hq,q⟩|⟨hq,q⟩
 ·obtain⟨its,r',pl,hz⟩:=I.list hq
  have hlen:=r'.length;refine call_tuple_list pl.isList (λh' kp=>?_) (by simp only[GO]<;>lia);have I1:Inv X pins σ H { s with heap:=h' }:=I.kept (t':=s.toks) kp;have I2:Inv X pins σ (upd H h'.objs.size (.tup ys)) { s with heap:=h'.push { cls:=.type "tuple",data:=.seq its.toArray } }:=
   I1.laid (t':=s.toks) (λb o e=>GD _ e) (GF _) (show ObjOk X.prog X.w _ _ _ (.tup ys)from⟨hz,its,r',N8 _ _⟩)
  exact⟨.ref h'.objs.size,_,I2,rfl,q _ (I1.hok.fresh (GF _))⟩
 ·obtain⟨its,r',pl,hz⟩:=I.tuple hq
  exact call_tuple_same pl ⟨.ref p,H,I,rfl,q⟩
def tyV(K:GC)(T:String)(x:V)(H:Hp):Prop:=match x with
 | .str _=>T = "str"
 | .int _=>T = "int"
 | .ref p=>(T = "list"/\∃xs,SqL K H p xs)\/(T = "tuple"/\∃o,K.lookup p=some o/\o.cls=.type "tuple"/\o.dict=none)\/
   (T = "dict"/\((∃kvs,H p=some (.dK kvs))\/∃kvs,H p=some (.dT kvs)))\/(T = "set"/\∃S n,H p=some (.set S n))
 | _=>False
theorem yn{H:Hp}{s:Shared}{T:String}{x:V}{v:Value}(I:Inv X pins σ H s)(r:RelV x v)(ty:tyV X.K T x H):
  s.TypeIs v T/\∀a,v=.ref a->∃ob,s.heap.get? a=some ob/\ob.dict=none:=by
 cases x with
 | str z=>
  obtain⟨t,rfl⟩:=r;cases(show T = "str" from ty);exact⟨typeIs_str s z t,λ_ e=>nomatch e⟩
 | int i=>
  obtain⟨t,rfl⟩:=r;cases(show T = "int" from ty);exact⟨typeIs_int s i t,λ_ e=>nomatch e⟩
 | ref p=>
  cases r;rcases ty with⟨rfl,xs,hq⟩|⟨rfl,o,hk,hc,hd⟩|⟨rfl,hk⟩|⟨rfl,S,n,hk⟩
  ·obtain⟨its,_,pl,_⟩:=I.list hq
   refine⟨pl.isList.typeIs,λa e=>?_⟩;cases e;obtain⟨o,n,e,c,hd,_⟩:=pl;exact⟨o,e,hd⟩
  ·refine⟨⟨o,I.kIn p o hk,hc⟩,λa e=>?_⟩
   cases e;exact⟨o,I.kIn _ o hk,hd⟩
  ·have z:∃o,s.heap.get? p=some o/\o.ExactDict:=by
    rcases hk with⟨kvs,hk⟩|⟨kvs,hk⟩
    ·obtain⟨_,_,_,_,o,_,_,e,ex,_⟩:=I.hok p _ hk
     exact⟨o,e,ex⟩
    ·obtain⟨_,_,_,_,o,_,_,e,ex,_⟩:=I.hok p _ hk
     exact⟨o,e,ex⟩
   obtain⟨o,e,ex⟩:=z;refine⟨⟨o,e,ex.1⟩,λa e2=>?_⟩;cases e2;exact⟨o,e,ex.2.1⟩
  ·obtain⟨o,_,_,_,e,ex,_⟩:=I.hok p _ hk
   refine⟨⟨o,e,ex.1⟩,λa e2=>?_⟩;cases e2;exact⟨o,e,ex.2.1⟩
 | _=>exact IG ty
def D7(K:GC)(T:String)(r:V->List V->Hp->VK->Prop)(to:TE):TE:=λσ H Q=>to σ H λx H1=>tyV K T x H1/\r x [] H1 Q
def tBM(K:GC)(T:String)(r:V->List V->Hp->VK->Prop)(to:TE)(t:TA):TE:=λσ H Q=>to σ H λx H1=>tyV K T x H1/\t σ H1 λxs H2=>r x xs H2 Q
variable{o e:Expr}{es:List Expr}{to:TE}{t:TA}{name:Str}{apos cpos:Pos}{T id:String}{r:V->List V->Hp->VK->Prop}
theorem BF (pa:PlainAttrs T) (slot:Slot T name id) (hty:typeOf (.builtin id)=pure (.type "method_descriptor")) (hm:MtR X id r) (ho:PE X o to)
  (hbase:attributeBase o name X.env (eval o X.env)=eval o X.env:=by rfl) (hline:(apos.endLine == cpos.line)=true:=by rfl):PE X (.Call (.Attribute o name apos) [] [] cpos) (D7 X.K T r to):=by
 intro pins s σ H Q I h;refine wpAny_Call_method0_late hbase hline (thn (ho pins s σ H _ I h) λv s1 ⟨x,H1,I1,r1,ty,q1⟩=>?_);obtain⟨h1,h2⟩:=yn I1 r1 ty;exact⟨T,id,pa,slot,hty,h1,h2,IT rfl (MZ (hm pins s1 σ H1 x [] v [] Q I1 r1 .nil q1))⟩
theorem D8 (pa:PlainAttrs T) (slot:Slot T name id) (hty:typeOf (.builtin id)=pure (.type "method_descriptor")) (hm:MtR X id r) (ho:PE X o to) (ha:PA X (e::es) t)
  (hbase:attributeBase o name X.env (eval o X.env)=eval o X.env:=by rfl)
  (hfew:((backTo cpos (starEach (e::es) X.env)).all (λx=>!x.1) && (backToKw cpos (keywordEach [] X.env)).all (λx=>x.1.isSome)
   && decide ((e::es).length+([]:List Keyword).length+(if([]:List Keyword).isEmpty then 0 else 1)<30))=true:=by rfl)
  (hline:(apos.endLine == cpos.line)=true:=by rfl) (hs:starEach (e::es) X.env=(false,eval e X.env)::starEach es X.env:=by rfl) (hplain:(backTo cpos (starEach es X.env)).any (·.1)=false:=by rfl) :
  PE X (.Call (.Attribute o name apos) (e::es) [] cpos) (tBM X.K T r to t):=by
 intro pins s σ H Q I h;refine wpAny_Call_method_late hbase hfew hline rfl (thn (ho pins s σ H _ I h) λv s1 ⟨x,H1,I1,r1,ty,q1⟩=>?_);obtain⟨h1,h2⟩:=yn I1 r1 ty;refine⟨T,id,pa,slot,hty,h1,h2,?_⟩;have hA:=ha cpos pins s1 σ H1 _ I1 q1;rw[hs]at hA ⊢;refine IT (by show(false || (backTo cpos (starEach es X.env)).any (·.1))=false;rw[hplain]<;>rfl) (KJ ?_);exact thn hA λus s2 ⟨vs,H2,I2,r2,q2⟩=>hm pins s2 σ H2 x vs v us Q I2 r1 r2 q2
end
def MtM(X:Cx)(id:String)(r:V->List V->Hp->VK->Prop):Prop:=
 ∀(pins:List (Addr×Obj)) (s:Shared) (σ:St) (H:Hp) (x:V) (xs:List V) (v:Value) (us:List Value) (Q:VK),Inv X pins σ H s->RelV x v->Vals xs us->r x xs H Q->
  wpAny (model X.prog X.w) X.A (call (.builtin id) (v::us)) (EP X pins σ Q) X.xe s
theorem Vals.one:∀{x:V}{us:List Value},Vals [x] us->∃u,us=[u]/\RelV x u
 | _,_,.cons r .nil=>⟨_,rfl,r⟩
theorem Vals.zero:∀{us:List Value},Vals [] us->us=[]
 | _,.nil=>rfl
theorem Vals.dropLast{xs:List V}{us:List Value}(h:Vals xs us):Vals xs.dropLast us.dropLast:=by
 induction h with
 | nil=>exact .nil
 | cons r t ih=>
  cases t with
  | nil=>exact .nil
  | cons q t'=>exact .cons r ih
theorem Vals.reverse{xs:List V}{us:List Value}(h:Vals xs us):Vals xs.reverse us.reverse:=by
 induction h with
 | nil=>exact .nil
 | cons r t ih=>rw[Np,Np];exact Vals.append ih (.cons r .nil)
theorem Vals.rep{xs:List V}{us:List Value}(h:Vals xs us):∀k:Nat,Vals (GY k xs).flatten (GY k us).flatten
 | 0=>.nil
 | k+1=>by
  rw[HM,HM,JB,JB];exact Vals.append h (Vals.rep h k)
theorem rg{α:Type}(l:List α):l.eraseIdx (l.length - 1)=l.dropLast:=by
 induction l with
 | nil=>rfl
 | cons a r ih=>
  cases r with
  | nil=>rfl
  | cons b r=>
   have e:(a::b::r).length - 1=((b::r).length - 1)+1:=by
    have h1:(a::b::r).length=r.length+2:=rfl;have h2:(b::r).length=r.length+1:=rfl;lia
   rw[e,List.eraseIdx_cons_succ,ih]
   all_goals rfl
theorem m6(its:List Value):∀(k:Nat) (acc:List Value),
  NN (λx1 x2=>x1++x2) acc.toArray (GY k its.toArray)=(acc++(GY k its).flatten).toArray
 | 0,acc=>by simp
 | k+1,acc=>by
  have e:acc.toArray++its.toArray=(acc++its).toArray:=by simp
  have e2:(acc++its)++(GY k its).flatten=acc++(GY (k+1) its).flatten:=by
   rw[HM,JB,HY]
  rw[<-e2,<-m6 its k (acc++its),<-e,HM,NO]
section
variable{X:Cx}{pins:List (Addr×Obj)}{σ:St}{H:Hp}{s:Shared}{l b:Addr}{xs ys zs:List V}
theorem Inv.lset{its':List Value}{f:Array Value->Array Value}(I:Inv X pins σ H s)(hH:H l=some (.lst xs))
  (e:s.heap.get? l=some { cls:=.type "list",data:=.seq its.toArray n }) (hf:f its.toArray=its'.toArray) (hv:Vals ys its') (hz:ys.length<=P4) :
  Inv X pins σ (upd H l (.lst ys)) { s with heap:=s.heap.update l (Hd f),toks:=t' }:=by
 have q:=PH e f;rw[hf]at q;refine I.write (x:=l) (e:=l) (by rw[hH];exact trivial) (.inl rfl) (λb' u hb hu=>(Il s.heap (Hd f) (Hx hb)).trans hu) ⟨_,q⟩ ?_;exact⟨hz,its',_,hv,q⟩
theorem Inv.lnew(I:Inv X pins σ H s)(hv:Vals ys its)(hz:ys.length<=P4):
  Inv X pins σ (upd H s.heap.objs.size (.lst ys)) { s with heap:=s.heap.push { cls:=.type "list",data:=.seq its.toArray },toks:=t' }:=
 I.laid (λ_ _ q=>GD _ q) (GF _) ⟨hz,its,0,hv,GT _ rfl⟩
theorem Inv.fresh(I:Inv X pins σ H s):H s.heap.objs.size=none:=I.hok.fresh (GF _)
theorem Inv.lstM (I:Inv X pins σ H s) (hH:H l=some (.lst xs)):xs.length<=P4/\∃(its:List Value) (n:Nat),Vals xs its/\xs.length=its.length/\s.heap.get? l=some { cls:=.type "list",data:=.seq its.toArray n }:=by
 obtain⟨z,its,n,r,e⟩:=I.hok l _ hH;exact⟨z,its,n,r,r.length,e⟩
theorem gG(h:n<=P4):Ir n=false:=by
 unfold Ir;exact decide_eq_false ⋯
end
section
variable{X:Cx}
def oH:V->List V->Hp->VK->Prop:=λx vs H Q=>∃l xs y,x=.ref l/\vs=[y]/\H l=some (.lst xs)/\xs.length<P4/\Q .non (upd H l (.lst (xs++[y])))
theorem sX:MtM X "list.append" oH:=by
 intro pins s σ H x vs v us Q I rx rv h;obtain⟨l,xs,y,rfl,rfl,hH,hz,q⟩:=h;cases rx;obtain⟨u,rfl,ru⟩:=rv.one;obtain⟨z,its,n,r,hl,e⟩:=I.lstM hH;refine QU F.slot_list_append ⟨_,e,rfl⟩ F.entry_list_append (F.args_list_append_2 _ _) (PySem.list_append l its.toArray n u (by rw[GO];lia)) ⟨e,?_⟩;refine⟨.non,_,I.lset (its':=its++[u]) hH e (by simp) (r.append (.cons ru .nil)) ?_,rfl,q⟩;rw[GZ,HX];lia
def oI:V->List V->Hp->VK->Prop:=λx vs H Q=>∃l b xs zs,x=.ref l/\vs=[.ref b]/\H l=some (.lst xs)/\H b=some (.lst zs)/\xs.length+zs.length<=P4/\Q .non (upd H l (.lst (xs++zs)))
theorem sY:MtM X "list.extend" oI:=by
 intro pins s σ H x vs v us Q I rx rv h;obtain⟨l,b,xs,zs,rfl,rfl,hH,hB,hz,q⟩:=h;cases rx;obtain⟨u,rfl,ru⟩:=rv.one;cases ru;obtain⟨z,its,n,r,hl,e⟩:=I.lstM hH;obtain⟨z2,its2,n2,r2,hl2,e2⟩:=I.lstM hB;have hsz:its.toArray.size+its2.toArray.size<=P4:=by rw[GO,GO];lia
 have hlong:¬(!its.toArray.isEmpty && Ir (its.toArray.size+its2.toArray.size))=true:=by
  rw[gG hsz,N3];exact G3
 refine QU Nb ⟨_,e,rfl⟩ M0 (MR _ _)
  (NF l its.toArray n b its2.toArray n2 hlong (by rw[GO];lia) ⋯) ⟨e,e2,?_⟩
 refine⟨.non,_,I.lset (its':=its++its2) hH e (by simp) (r.append r2) ?_,rfl,q⟩;rw[GZ];lia
def D9:V->List V->Hp->VK->Prop:=λx vs H Q=>∃l xs y,x=.ref l/\vs=[]/\H l=some (.lst xs)/\xs[xs.length - 1]? = some y/\Q y (upd H l (.lst xs.dropLast))
theorem BG:MtM X "list.pop" D9:=by
 intro pins s σ H x vs v us Q I rx rv h;obtain⟨l,xs,y,rfl,rfl,hH,hy,q⟩:=h;cases rx;have hus:=rv.zero;subst hus;obtain⟨z,its,n,r,hl,e⟩:=I.lstM hH;obtain⟨u,hu,ru⟩:=r.get hy;have hy':its.toArray[its.toArray.size - 1]? = some u:=by
  show its.toArray[its.length - 1]? = some u
  rw[<-JE,<-hl];exact hu
 refine QU F.slot_list_pop ⟨_,e,rfl⟩ F.entry_list_pop (F.args_list_pop_1 _) (O4 l its.toArray n u hy' (by rw[GO];lia)) ⟨e,?_⟩;refine⟨y,_,I.lset (its':=its.dropLast) hH e ?_ r.dropLast ?_,ru,q⟩
 ·show its.toArray.eraseIdxIfInBounds (its.toArray.size - 1)=its.dropLast.toArray
  rw[GO,List.eraseIdxIfInBounds_toArray,rg]
 ·rw[List.length_dropLast]
  lia
def Fc:R2:=λx y H Q=>∃l b xs zs,x=.ref l/\y=.ref b/\H l=some (.lst xs)/\H b=some (.lst zs)/\xs.length+zs.length<=P4/\∀p,H p=none->Q (.ref p) (upd H p (.lst (xs++zs)))
theorem BH:OpR X (Qf .Add) Fc:=by
 intro pins s σ H x y v u Q I rx ry h;obtain⟨l,b,xs,zs,rfl,rfl,hH,hB,hz,q⟩:=h;cases rx;cases ry;obtain⟨z,its,n,r,hl,e⟩:=I.lstM hH;obtain⟨z2,its2,n2,r2,hl2,e2⟩:=I.lstM hB;refine PySem.P.add_list e e2 ?_ (by rw[GO,GO];lia);have ea:its.toArray++its2.toArray=(its++its2).toArray:=by simp
 rw[ea];exact⟨.ref _,_,I.lnew (t':=s.toks) (r.append r2) (by rw[GZ];lia),rfl,q _ I.fresh⟩
def Fd:R2:=λx y H Q=>∃l k xs,x=.ref l/\y=.int k/\H l=some (.lst xs)/\-(2 ^ 63)<=k/\k<2 ^ 63/\xs.length*k.toNat<=P4/\
 ∀p,H p=none->Q (.ref p) (upd H p (.lst (GY k.toNat xs).flatten))
theorem zw{α:Type}(xs:List α)(k:Nat):(GY k xs).flatten.length=k*xs.length:=by
 induction k with
 | zero=>simp
 | succ k ih=>rw[HM,JB,GZ,ih,OO,OP]
theorem BI:OpR X (Qf .Mult) Fd:=by
 intro pins s σ H x y v u Q I rx ry h;obtain⟨l,k,xs,rfl,rfl,hH,h1,h2,hz,q⟩:=h;cases rx;obtain⟨t,rfl⟩:=ry;obtain⟨z,its,n,r,hl,e⟩:=I.lstM hH;have hlen:its.toArray.size*k.toNat<=P4:=by rw[GO,<-hl];exact hz
 have hcap:¬its.toArray.size*k.toNat > (2 ^ 63 - 1) / 8:=by
  have:(P4:Nat)<=(2 ^ 63 - 1) / 8:=by decide
  lia
 have hfit:¬(!Builtin.List.listFitsIndex k)=true:=by
  rw[fitsIndex_both h1 h2];exact G3
 have hlong:¬Ir (its.toArray.size*k.toNat)=true:=by
  rw[gG hlen];exact G3
 have hnew:NN (λx1 x2=>x1++x2) #[] (GY (if its.toArray.isEmpty=true then 0 else k.toNat) its.toArray)=(GY k.toNat its).flatten.toArray:=by
  have f0:∀m:Nat,NN (λx1 x2=>x1++x2) #[] (GY m its.toArray)=(GY m its).flatten.toArray:=λm=>by
   have:=m6 its m [];rw[KL]at this;exact this
  rw[f0];cases its with
  | nil=>simp
  | cons a r'=>rw[if_neg (by simp)]
 refine wpAny_binaryOp_repeat_ref (T:="list") (U:="int") (by decide) ⟨_,e,rfl⟩ (λs'=>typeIs_int s' k t) noFill_list_mul F.fills_int_mul NP repeat_list F.slot_int_index.lookup
  (QU NP (typeIs_int s k t) F.entry_int_rmul (F.args_int_rmul_2 _ _) (int___rmul___int_list k t l its.toArray n)
   ⟨e,rfl,⟨_,e,rfl⟩,QU F.slot_list_mul ⟨_,e,rfl⟩ F.entry_list_mul (F.args_list_mul_2 _ _) (NA l its.toArray n k t hfit hcap hlong) ⟨e,?_⟩⟩)
 rw[hnew];exact⟨.ref _,_,I.lnew (t':=s.toks) (r.rep k.toNat) (by rw[zw,OQ];exact hz),rfl,q _ I.fresh⟩
end
section
variable{prog:Program}{w:World}{A:Around}{E:Value->Shared->Prop}{s:Shared}
theorem sZ(its its2:List Value)(a c:Nat):its.toArray.extract 0 a++its2.toArray++its.toArray.extract c its.toArray.size=(its.take a++its2++its.drop c).toArray:=by
  apply Array.toList_inj.mp
  first
    | (simp
       exact GJ (by simp))
    | simp[GJ]
    | simp
theorem rh{a:Nat}(hac:a<=c)(hc:c<=n):QD (some (a:Int)) (some (c:Int)) none n=((a:Int),(c:Int),1):=by
 simp only[QD,LI];have h1:¬((a:Int)<0):=by lia
 have h2:¬((c:Int)<0):=by lia
 simp only[h1,h2,if_false,show(1:Int) > 0 by decide,if_true];congr 1
 ·lia
 ·congr 1;lia
set_option maxRecDepth 100000 in
theorem lz{b:Addr}{new:Array Value}{n2:Nat}{a:Nat}{Q:Unit->Shared->Prop}
    (e:s.heap.get? l=some { cls:=.type "list",data:=.seq items n }) (e2:s.heap.get? b=some { cls:=.type "list",data:=.seq new n2 }) (hne:l≠b)
    (hs:s.heap.IsSliceOf sl vl vu .none) (pl:IsPart vl (some (a:Int))) (pu:IsPart vu (some (c:Int))) (hac:a<=c) (hc:c<=items.size)
    (hsz:items.size+new.size<=P4) (h:Q () { s with heap:=s.heap.update l (Hd λxs=>xs.extract 0 a++new++xs.extract c xs.size) }) :
    wpAny (model prog w) A (setItem (.ref l) (.ref sl) (.ref b)) Q E s:=by
  have hl:s.heap.IsList l items:=NG e;have hb:s.heap.IsList b new:=NG e2;obtain⟨os,hos,hcs,hds⟩:=id hs;have hTs:s.TypeIs (.ref sl) "slice":=⟨os,hos,hcs⟩;have hstep:¬((rawPart none == Qp 0)=true):=G3;have hsame:Jj (.ref l) (.ref b)=false:=by
    unfold Jj;exact beq_eq_false_iff_ne.mpr hne
  have hmax:(max (a:Int) (c:Int)).toNat=c:=by lia
  have hz':((λxs:Array Value=>xs.extract 0 a++new++xs.extract c xs.size) items).size<=P4+1:=by
    simp only[Array.size_append,Array.size_extract];lia
  unfold setItem
  try with_reducible refine P7 ?_
  first|refine P2 (P3 ?_)|skip
  refine P2 (wpAny_sequenceKey hl.typeIs (by decide) ?_);refine P2 (Qk (name:=Hi "__setitem__") hl.typeIs slot_list_setitem
    (Qg slot_list_setitem hl.typeIs entry_list_setitem ?_ (args_list_setitem _ _ _)))
  show wpAny _ _ (Lb (.ref sl) >>= _) _ _ s
  refine P2 ?_;unfold Lb;refine P2 (wpAny_specialOf hTs slice_no_index ?_);simp only[Option.isNone_none,if_true];refine P3 ?_;show wpAny _ _ (typeOf (.ref sl) >>= _) _ _ s
  refine P2 (QF hTs ?_)
  first
    | rw[if_neg (by decide)]
    | refine Lc (by decide) ?_
  rw[listSliceParts_eq];refine P2 (P2 (Qj hos hds (x:=.none) rfl (P2 (wpAny_listPart .none ?_))));rw[if_neg hstep];refine P2 (Qj hos hds (x:=vl) rfl (P2 (wpAny_listPart pl ?_)));refine P2 (Qj hos hds (x:=vu) rfl (P2 (wpAny_listPart pu (P3 ?_))))
  first
    | simp only[hsame,Hm,if_false]
    | refine Lc hsame ?_
    | (dsimp only
       rw[if_neg (by rw[hsame];exact G3)])
  refine P2 (m:=Ly (.ref b) "must assign iterable to extended slice") ?_;unfold Ly;refine P2 (QF hb.typeIs ?_)
  first
    | refine PC (by decide) ?_
    | rw[if_pos (by decide)]
    | simp only[beq_self_eq_true,KM,if_true]
  unfold O5;refine P2 (wpAny_seqItems e2 rfl (P3 ?_));refine P2 (P2 (wpAny_seqItems e rfl (P3 ?_)));refine P2 (wpAny_of_eq ((sliceIndices_raw (some (a:Int)) (some (c:Int)) none items.size (by simp)).trans (congrArg (pure:Int×Int×Int->Sem (Int×Int×Int)) (rh hac hc))) ?_);show wpAny _ _ (if((1:Int) == 1)=true then _ else _) _ _ s
  rw[if_pos (by decide)];refine P2 (wpAny_rule ?_)
  first
    | simp only[gG hsz,Hm,if_false]
    | refine Lc (gG hsz) ?_
  first|refine P2 (P3 ?_)|skip
  show wpAny _ _ (updateSeq l (λxs=>xs.extract 0 ((a:Int)).toNat++new++xs.extract (max (a:Int) (c:Int)).toNat xs.size) >>= _) _ _ s
  rw[hmax,HQ];refine P2 (Qy (hz:=HJ (IQ _ _) hsz) (_hz':=hz') e rfl ?_);refine P2 (QX ?_)
  first
    | exact P2 (P3 (P3 ⟨.none,rfl,P3 h⟩))
    | exact P3 ⟨.none,rfl,P3 h⟩
end
section
variable{X:Cx}
theorem tj{s:Shared}{H:Hp}{b:Addr}{a c:Int}{Q:Unit->Shared->Prop}(I:Inv X pins σ H s)
  (hH:H l=some (.lst xs)) (hB:H b=some (.lst ys)) (hne:l≠b) (hs:s.heap.IsSliceOf sl vl vu .none) (ra:RelV (.int a) vl) (rc:RelV (.int c) vu) (h0:0<=a) (hac:a<=c) (hc:c<=xs.length)
  (hz:xs.length+ys.length<=P4) (h:∀s',Inv X pins σ (upd H l (.lst (xs.take a.toNat++ys++xs.drop c.toNat))) s'->Q () s') :
  wpAny (model X.prog X.w) X.A (setItem (.ref l) (.ref sl) (.ref b)) Q X.xe s:=by
 obtain⟨ta,rfl⟩:=ra;obtain⟨tc,rfl⟩:=rc;obtain⟨z,its,n,r,hl,e⟩:=I.lstM hH;obtain⟨z2,its2,n2,r2,hl2,e2⟩:=I.lstM hB;obtain⟨a',rfl⟩:=L1 h0;obtain⟨c',rfl⟩:=L1 (OR h0 hac);simp only[HQ]at h;refine lz (a:=a') (c:=c') e e2 hne hs (.int _ _) (.int _ _) ⋯ (by rw[GO];lia) (by rw[GO,GO];lia) (h _ ?_);refine I.lset (its':=its.take a'++its2++its.drop c') (t':=s.toks) hH e ?_ (Vals.append (Vals.append (r.take _) r2) (r.drop _)) ?_
 ·exact sZ its its2 a' c'
 ·rw[GZ,GZ,G5,Ig]
  lia
end
end L2
namespace Att
open PySem PySem.W PySem.Calls PyProof.Rows
theorem jw{P:Params}:∀(ns:List Int) (vs:List Value),WellAll P h vs (ns.map WData.int)->P9 vs ns:=by
 intro ns
 induction ns with
 | nil=>
  intro vs w;rw[KI]at w;cases w;exact .nil
 | cons n ns ih=>
  intro vs w;rw[Hg]at w;cases w with
  | cons a b=>
   cases a;exact .cons _ _ (ih _ b)
theorem tw{l:OpenLaw}(hn:l.most=some n){P:Params}{args:List WData}{vals:List Value}
  (hpre:l.row.toRowW.claim.pre args=true) (hwl:WellAll P h vals args) :
  ∃a vs ns,vals=[Hb a]/\args=[WData.list (ns.map WData.int)]/\h.get? a=some { cls:=.type "list",data:=.seq vs.toArray }/\P9 vs ns/\ns.length<=n:=by
 have hsh:WShape.hasAll [] args [.list .int]=true:=(pre_splitW hpre).1;have hc:l.pre.holds [] { args:=args }=true:=(pre_splitW hpre).2;obtain⟨d,r,rfl,h1,h2⟩:=hasAllW_cons hsh;obtain rfl:=hasAllW_nil h2;obtain⟨xs,rfl,h3⟩:=hasW_list h1;obtain⟨ns,rfl⟩:=items_int h3;have hlen:ns.length<=n:=by
  unfold OpenLaw.pre at hc;have h4:(WTm.not (.lt (.lit (.int (n:Int))) (.len (.arg 0)))).holds [] { args:=[.list (ns.map .int)] }=true:=by
   have h4:=(holds_andW hc).1;rw[hn]at h4;exact h4
  have h5:=condW_of h4 (w_not (w_lt w_lit (w_len_list (w_arg rfl))));rw[GA]at h5;refine Nat.le_of_not_lt λq=>?_
  have q':(n:Int)<((ns.length:Nat):Int):=by lia
  first
   | (rw[decide_eq_true q']at h5;exact absurd h5 (by decide))
   | (simp at h5;lia)
 cases hwl with
 | cons w1 w2=>
  cases w2;cases w1 with
  | list ho hall=>exact⟨_,_,ns,rfl,rfl,ho,jw ns _ hall,hlen⟩
theorem tD(l:OpenLaw)(args:List WData):l.row.toRowW.claim.post args (.bool true) args=true:=
 postW_of (r:=l.row.toRowW) (X:=(true == true))
  (show WShape.has [] (.bool true) .bool=true by first|rfl|decide|simp[WShape.has,WShape.arms,WShape.armsAll])
  (show(WTm.eq .res (.lit (.bool true))).value [] { args:=args,res:=some (.bool true),after:=args }=some (.bool (true == true))from w_eq_bool (w_res rfl) w_lit) rfl
theorem oJ{l:OpenLaw}{q:Program}{loose:List Str}{XP:(Str->Option Value)->Heap->Prop}{YP:World->Heap->Prop}{d:DefRec}
  (hn:l.most=some n) (hdf:d.params.defaults=[])
  (call:∀(w:World) (s₀ s₁:Shared) (mg mb:Str->Option Value) (fa:Addr) (o:Obj) (pm cd doc:Value) (a:Addr) (vs:List Value) (ns:List Int),
   Ground q loose [] XP w s₀ mg mb s₁.heap->YP w s₁.heap->
   s₁.heap.get? fa=some o->o.data=.func (docDef d.name d.params d.body d.scope pm cd doc)->s₁.heap.CodeRec cd d.name->mg d.name=some (.ref fa)->
   s₁.heap.get? a=some { cls:=.type "list",data:=.seq vs.toArray }->P9 vs ns->ns.length<=n->s₁.gens=#[]->
   codeAny (model l.prog w) callerA (.call (.ref fa) ⟨[.ref a],[]⟩) (λr s'=>r=.ok (.ret (.bool true))/\OldK s₁.heap s'.heap/\s'.os=s₁.os/\AllBare s'.gens) s₁) :
  WalkO q loose XP YP l.row.toRowW d [] (λf vs=>NQ f vs):=by
 intro w s₀ s₁ mg mb G Y fa o pm cd doc dV kV ho hd hcd hD hmg hg args vals as hpre hlay hrd hwl hlo;obtain rfl:dV=.none:=Dflts.none hD hdf;obtain rfl:kV=.none:=Dflts.noKw hD;obtain⟨a,vs,ns,rfl,rfl,hobj,hints,hlen⟩:=tw hn hpre hwl;refine enter_call (QM (call w s₀ s₁ mg mb fa o pm cd doc a vs ns G Y ho (fd_plain hd) hcd hmg hobj hints hlen hg) λr s' hq=>?_);obtain⟨rfl,h2,h3,h4⟩:=hq;exact⟨.inl ⟨.bool true,.bool true,[],rfl,λ_=>rfl,.bool true,tD l _,λ_=>⟨Kk,λ_ hm=>(nomatch hm)⟩⟩,h2,h3,h4⟩
section
variable{prog:Program}{w:World}{A:Around}{E:Value->Shared->Prop}{s:Shared}{K:Frag}
end
end Att
namespace L2
open PySem PySem.Spec PyProof.Rows
theorem m7:∀{vs:List Value}{ns:List Int},P9 vs ns->Vals (ns.map PR) vs
 | _,_,.nil=>.nil
 | _,_,.cons n t h=>.cons ⟨t,rfl⟩ (m7 h)
noncomputable def jx(s:Stmt):Arguments:=match s with
 | .FunctionDef _ a _ _ _ _ _ _ _ _=>a
 | _=>{ posonlyargs:=[],args:=[],vararg:=none,kwonlyargs:=[],kw_defaults:=[],kwarg:=none,defaults:=[] }
noncomputable def fb(s:Stmt):List Stmt:=match s with
 | .FunctionDef _ _ b _ _ _ _ _ _ _=>b
 | _=>[]
noncomputable def ao(s:Stmt):Scope:=match s with
 | .FunctionDef _ _ _ _ _ _ sc _ _ _=>sc
 | _=>{ kind:=.function,names:=[],isGenerator:=false,isCoroutine:=false }
noncomputable abbrev CX0:CXT:=λ_ _ _ _ _ _=>False
noncomputable abbrev E0:XK:=λ_ _ _=>False
theorem ay:kR CX0 X E0:=λ_ _ _ _ _ _ _ h=>h.elim
structure Fun (K:GC) (x qual:Str) (st:Stmt) (f:Addr) (fd:FuncData):Prop where
 ex:∃(oc:Value) (od:Option Addr) (kV doc pm:Value) (an:Option Addr) (cdv ct:Value) (osl:Array (Option Value)),
  fd=JD x qual (jx st) (fb st) (ao st) .none kV doc pm an cdv ct/\K.lookup f=some ⟨oc,od,.func fd,osl⟩/\K5 K cdv qual=true
 kp:Jf K (.ref f)=true
section
variable{P:Program}{w:World}{K:GC}{mg:Str->Option Value}{base:Heap}
theorem Fun.ok{f:Addr}{fd:FuncData}{N ps:List Str}{k:Nat}{sp:Sp}(F:Fun K x qual st f fd)(S:FnScope N ps (ao st))(len:∀vs H Q E,sp vs H Q E->vs.length=ps.length)
  (hbody:∀(cdv:Value) (A:Around) (outer:List Env) (s:Shared) (H:Hp) (vs:List V) (Q:VK) (E:XK),Room k (A.deeper (envOfC qual (ao st) s.heap.objs.size f cdv))->sp vs H Q E->
   ∃t,PSs (yl CX0 P w K mg base N qual (ao st) f cdv A outer s H E).nox (fb st) t/\t { nx:=λ_ H'=>Q .non H',rt:=Q } (start N vs) H):FnOk P w K mg base CX0 (k+1) f fd ps sp:=by
 obtain⟨oc,od,kV,doc,pm,an,cdv,ct,osl,rfl,lk,hcd⟩:=F.ex;refine Bz lk hcd S len λA outer s H vs Q E hr hsp=>?_
 obtain⟨t,h,q⟩:=hbody cdv A outer s H vs Q E hr hsp;exact⟨t,h.nox,q⟩
theorem Fun.binds{f:Addr}{fd:FuncData}{ps:List Str}(F:Fun K x qual st f fd)
  (h:∀(kV doc pm:Value) (an:Option Addr) (cdv ct:Value) (us:List Value),us.length=ps.length->bindArgs (JD x qual (jx st) (fb st) (ao st) .none kV doc pm an cdv ct) ⟨us,[]⟩=pure (ps.zip us)):Binds K fd ps []:=by
 obtain⟨oc,od,kV,doc,pm,an,cdv,ct,osl,rfl,lk,hcd⟩:=F.ex;exact .all (h kV doc pm an cdv ct)
theorem yo{f:Addr}{oc:Value}{od an:Option Addr}{osl:Array (Option Value)}{kV doc cdv ct:Value}(l:K.lookup f=some ⟨oc,od,.func (JD x qual (jx st) (fb st) (ao st) .none kV doc pm an cdv ct),osl⟩)
  (c:K5 K cdv qual=true) (k:Jf K (.ref f)=true):Fun K x qual st f (JD x qual (jx st) (fb st) (ao st) .none kV doc pm an cdv ct):=⟨⟨oc,od,kV,doc,pm,an,cdv,ct,osl,rfl,l,c⟩,k⟩
end
theorem oK{A:Around}{k:Nat}(hr:Room k A):A.units+1<cLine:=HI (Nat.add_le_add_left (by decide:1<=64) _) hr.units
theorem am(h:n<=1000):n<P4:=HI h (by decide)
section
variable{X:Cx}
end
def Same(H H':Hp):Prop:=∀b o,H b=some o->H' b=some o
theorem Same.refl(H:Hp):Same H H:=λ_ _ h=>h
theorem Same.trans{H:Hp}(a:Same H H1)(b:Same H1 H2):Same H H2:=λc o h=>b c o (a c o h)
theorem Same.free{H:Hp}(e:Same H H')(h:H' l=O6):H l=O6:=by
 cases q:H l with
 | none=>rfl
 | some o=>
  rw[e l o q]at h;cases h
theorem Same.seq{K:GC}{H:Hp}(e:Same H H')(h:SqL K H a xs):SqL K H' a xs:=by
 rcases h with(h|⟨o,h⟩)|h
 ·exact .inl (.inl (e _ _ h))
 ·exact .inl (.inr ⟨o,e _ _ h⟩)
 ·exact .inr h
section
variable{X:Cx}{pins:List (Addr×Obj)}{σ:St}{H:Hp}{s:Shared}
theorem Inv.adopt{D:Addr}(I:Inv X pins σ H s)(hn:H D=none)(hL:D≠X.env.locals)
  (h1:D∈X.ex\/X.s₀.heap.objs.size<=D) (h2:∀x c,X.env.cells.lookup x=some c->c≠D) (h3:∀p∈X.pn++pins,p.1≠D)
  (new:ObjOk X.prog X.w (upd H D o) s.heap D o):Inv X pins σ (upd H D o) s:=by
 have nit:∀b u,H b=some u->b≠D:=λb u e z=>by rw[z,hn]at e;cases e
 have keep:∀b u,H b=some u->upd H D o b=some u:=λb u e=>by rw[ai (nit b u e)];exact e
 refine I.step (h':=s.heap) (g':=s.gens) (d':=s.drawn) (t':=s.toks) (ch:=[D]) (λb hb=>?_) (λb o _ _ _ e _=>e) (λb o _ _ _ e _=>⟨o.slots,e⟩) (λb u hc e n=>?_)
  (λb o _ e=>⟨o,e⟩) (λb xs e=>keep b _ e) (λb o u e=>keep b _ e) (λb ps e=>⟨#[],by rw[keep b _ e];simp⟩) (λm hm=>hm) (λb u e=>?_) I.bare
 ·have e:b=D:=by simpa using hb
  subst e;exact⟨h1,hL,h2,h3⟩
 ·rw[ai (λz=>hc (by simp[z]))];exact n
 ·by_cases hb:b=D
  ·subst hb;rw[aa]at e;cases e;exact new
  ·rw[ai hb]at e
   exact(I.hok b u e).stay (λc v _ q=>q) (λc q=>keep c _ q) λc xs q=>keep c _ q
end
noncomputable def av(X:Cx)(N:List Str)(scope:Scope)(cl:List (Str×Addr))(fp:List Addr)(C:Addr)(s:Shared)(H:Hp):Cx:=
 { X with N:=N,s₀:=s,H₀:=H,env:=compEnvC scope cl C X.env,outer:=X.stack,ex:=fp,fn:=λ_=>false,pn:=[],xe:=λ_ _=>False }
noncomputable def FrOk(X:Cx)(scope:Scope)(cl:List (Str×Addr)):List Str->Prop
 | []=>True
 | x::r=>(X.env.kindOf x=some .cell/\(relabel scope X.env).names.lookup x=some .cell/\∃c,cl.lookup x=some c/\X.env.cells.lookup x=some c)/\FrOk X scope cl r
theorem FrOk.mem{X:Cx}{scope:Scope}{cl:List (Str×Addr)}:∀{l:List Str},FrOk X scope cl l->∀x∈l,
  X.env.kindOf x=some .cell/\(relabel scope X.env).names.lookup x=some .cell/\∃c,cl.lookup x=some c/\X.env.cells.lookup x=some c
 | [],_,_,h=>nomatch h
 | y::r,⟨h1,h2⟩,x,h=>by
  rcases GW.mp h with e|e
  ·subst e;exact h1
  ·exact FrOk.mem h2 x e
noncomputable def ClOk(X:Cx):List (Str×Addr)->Prop
 | []=>True
 | p::r=>X.env.cells.lookup p.1=some p.2/\ClOk X r
theorem ClOk.get{X:Cx}:∀{l:List (Str×Addr)},ClOk X l->∀x c,l.lookup x=some c->X.env.cells.lookup x=some c
 | [],_,_,_,h=>by simp at h
 | p::r,⟨h1,h2⟩,x,c,h=>by
  obtain⟨n,a⟩:=p;cases e:x == n with
  | true=>
   have e':x=n:=by simpa using e
   subst e';simp only[Jk,e]at h;cases h;exact h1
  | false=>
   simp only[Jk,e]at h;exact ClOk.get h2 x c h
structure CompOk (X:Cx) (N tgs frs:List Str) (ix:List Nat) (scope:Scope) (cl:List (Str×Addr)):Prop where
 clos:closureFor scope X.env=pure cl
 cell:∀y∈scope.names,y.2≠.cell
 kind:scope.kind=.function
 names:∀y∈scope.names,y.2=.local->scope.names.lookup y.1=some .local
 nm:N=tgs++frs
 ixs:ix.map (X.N[·]?)=frs.map some
 fr:FrOk X scope cl frs
 cls:ClOk X cl
 has:(relabel scope X.env).names.all (λp=>!(p.2 == .cell || p.2 == .free) || (cl.lookup p.1).isSome)=true
noncomputable def di(tgs:List Str)(ix:List Nat)(σ:St):St:=GY tgs.length none++ix.map λj=>(σ[j]?).getD none
section
variable{X:Cx}{N tgs frs:List Str}{ix:List Nat}{scope:Scope}{cl:List (Str×Addr)}
theorem rj(c:CompOk X N tgs frs ix scope cl)(h1:N[i]? = some x)(h2:(di tgs ix σ)[i]? = some (some v)):x∈frs/\∃j:Nat,X.N[j]? = some x/\σ[j]? = some (some v):=by
 unfold di at h2;by_cases hi:i<tgs.length
 ·rw[G6 (by simpa using hi),Js,if_pos hi]at h2
  cases h2
 ·rw[He (by simpa using hi),IY,GE]at h2
  rw[c.nm,He ⋯]at h1;have e:=congrArg (·[i - tgs.length]?) c.ixs;simp only[GE,h1]at e;cases q:ix[i - tgs.length]? with
  | none=>rw[q]at e;cases e
  | some j=>
   rw[q]at e h2;simp only[KG,Lv]at e h2;refine⟨Hc h1,j,e,?_⟩;cases z:σ[j]? with
   | none=>rw[z]at h2;cases h2
   | some o=>rw[z]at h2;simp at h2;rw[h2]
theorem cN{l:List (Str×NameKind)}{k:NameKind}(h:l.lookup x=some k):(x,k)∈l:=IM h
theorem CompOk.hasOf(c:CompOk X N tgs frs ix scope cl)(h:(relabel scope X.env).names.lookup x=some .cell\/(relabel scope X.env).names.lookup x=some .free):∃a,cl.lookup x=some a:=by
 have all:=Jl.mp c.has;rcases h with h|h
 ·have q:=all _ (cN h)
  exact Ip.mp (by simpa only[beq_self_eq_true,KM,JQ,Jv]using q)
 ·have q:=all _ (cN h)
  exact Ip.mp (by simpa only[beq_self_eq_true,LJ,JQ,Jv]using q)
theorem jg{H:Hp}{s2:Shared}{h1:Heap}{C:Addr}{m:Str->Option Value}(c:CompOk X N tgs frs ix scope cl)(I:Inv X pins σ H s2)(hf:∀b∈fp,oD X pins H b)(hfl:∀b∈fp,b<s2.heap.objs.size)
  (hC:s2.heap.objs.size<=C) (hns:h1.Ns C m) (hk:∀b o,s2.heap.get? b=some o->h1.get? b=some o){pins':List (Addr×Obj)}
  (hpin:∀p∈pins',h1.get? p.1=some p.2/\s2.heap.objs.size<=p.1/\p.1≠C/\∀v,p.2.data≠.cell v) :
  Inv (av X N scope cl fp C s2 H) pins' (di tgs ix σ) H { s2 with heap:=h1,toks:=tk }:=by
 have hcn:∀x a,cl.lookup x=some a->X.env.cells.lookup x=some a:=c.cls.get
 have clt:∀x a,cl.lookup x=some a->a<s2.heap.objs.size:=λx a e=>by
  obtain⟨v,q⟩:=I.cell x a (hcn x a e);exact q.lt
 refine⟨⟨I.ok.mod,c.kind,I.ok.glob,I.ok.blt,hC,λx y a h1 h2=>I.ok.inj x y a (hcn _ _ h1) (hcn _ _ h2),λx hx=>c.hasOf hx,(λx a z _=>Bool.noConfusion z),I.ok.hd,I.ok.frames,.inl rfl,λb hb=>⟨?_,λx a e=>?_⟩,I.bs,HJ I.ok.bsz I.sz,λb o e hb=>?_,λb hb z=>?_,I.stack,I.stkFree⟩,
  rfl,I.bare,Un.kept hk,⟨m,hns,λi x v e1 e2 e3=>?_⟩,λx a e=>?_,I.hok.fresh hC,λx a e=>I.freeC x a (hcn x a e),λp hp=>?_,I.hok.kept hk,?_⟩
 ·exact GV (G0 (hfl b hb) hC)
 ·exact(hf b hb).2.2.2.2.1 x a (hcn x a e)
 ·rcases(hf b hb).2.2.2.1 with z|z
  ·exact I.ok.noex b o e z
  ·exact absurd (G0 (GK (I.ok.bs b o e).1) z) (Hw _)
 ·rcases GW.mp (I.stkSub b z)with e|e
  ·exact(hf b hb).2.1 e
  ·exact(hf b hb).2.2.1 e
 ·obtain⟨hx,j,n1,n2⟩:=rj c e1 e2
  obtain⟨k1,k2,a,l1,l2⟩:=c.fr.mem x hx;obtain⟨m',_,hl⟩:=I.loc;obtain⟨u,r,l⟩:=hl j x v n1 n2 (.inr (.inl k1));refine⟨u,r,.inr ⟨.inl k2,a,l1,?_⟩⟩;rcases l with⟨l,_⟩|⟨_,a',l3,o,l4,l5⟩
  ·rw[k1]at l;cases l
  ·rw[l2]at l3;cases l3
   exact⟨o,hk _ _ l4,l5⟩
 ·obtain⟨v,o,q1,q2⟩:=I.cell x a (hcn x a e)
  exact⟨v,o,hk _ _ q1,q2⟩
 ·have hp':p∈pins':=by simpa [av]using hp
  obtain⟨q1,q2,q3,q4⟩:=hpin p hp';exact⟨q1,I.hok.fresh q2,q3,λz=>by
   rcases GW.mp (I.stkSub p.1 z)with e|e
   ·exact absurd (G0 I.lt q2) (by rw[e];exact Hw _)
   ·exact I.nofs q2 e,q4⟩
 ·show(di tgs ix σ).length=N.length
  unfold di;have e:=congrArg Jz c.ixs;simp only[GA]at e;rw[c.nm];simp[e]
theorem fc{prog:Program}{w:World}{A:Around}{R:Result->Shared->Prop}{s:Shared}{elt target iter:Expr}{pos:Pos}{it acc:Value}{env:Env}(I:Nat->Shared->Prop)
  (turn:∀n s,I n s->wpAny (model prog w) A (pyNext it) (λr s1=>match r with
   | none=>R (.ok .next) s1
   | some v=>wpAny (model prog w) A (letOwnedTupleGo target it v) (λ_ s1'=>wpAny (model prog w) A (assign target env v) (λ_ s2=>wpAny (model prog w) A (eval elt env) (λx s3=>
     wpAny (model prog w) A (call (.builtin "list.append") [acc,x]) (λ_ s4=>∃m,m<n/\I m s4) (λ_ _=>False) s3)
     (λ_ _=>False) s2) (λ_ _=>False) s1') (λ_ _=>False) s1) (λ_ _=>False) s)
  (n:Nat) (h:I n s) :
  codeAny (model prog w) A (.compLoop (.ListComp elt [⟨target,iter,[],0⟩] scope pos) 0 it acc env) R s:=by
 have up:∀{α:Type}{t:Sem α}{Q Q':α->Shared->Prop}{E:Value->Shared->Prop}{s:Shared},wpAny (model prog w) A t Q (λ_ _=>False) s->(∀a s,Q a s->Q' a s)->wpAny (model prog w) A t Q' E s:=λh hq=>P8 h hq λ_ _ f=>f.elim
 refine codeAny_loop rfl I (λn s hI=>?_) n h;show wpAny _ _ ((compTurn (.ListComp elt [⟨target,iter,[],0⟩] scope pos) 0 it acc env).onRaise (λx=>do noteFrame x env;theTreesLotGoes x)) _ _ s
 refine wpAny_noted ?_;rw[compTurn_list1];refine P2 (Qr (P2 (up (turn n s hI) (λr s1 h1=>?_))));cases r with
 | none=>exact P3 h1
 | some v=>
  refine P2 (up h1 λ_ s1' h1'=>?_);exact P2 (up h1' (λ_ s2 h2=>P2 (P2 (up h2 (λx s3 h3=>P2 (up h3
   (λ_ s4 h4=>P3 (P3 ⟨rfl,h4⟩))))))))
def oM(wi:TI)(g:TG)(te:TE)(tgs:List Str)(ix:List Nat):TE:=λσ H Q=>wi σ H λJ H1=>
 ∃W:Nat->Nat->List V->St->Hp->Prop,(∃m,W 0 m [] (di tgs ix σ) H1)/\∀i m xs σc H,W i m xs σc H->xs.length<P4/\
  ((J.stop i H/\∀p,H p=none->Q (.ref p) (upd H p (.lst xs)))\/(J.go i H/\∀x H',J.yld i H x H'->g x σc H' λσ2 H2=>te σ2 H2 λy H3=>∃m',m'<m/\W (i+1) m' (xs++[y]) σ2 H3))
noncomputable abbrev aB (us:List Value) (k:Nat):Obj:={ cls:=.type "list",data:=.seq us.toArray k }
theorem zx{te:TE}(c:CompOk X N tgs frs ix scope cl)(hc:X.calm=true)(hi:PI X tg iter wi)
  (hg:∀fp C s H,PG (av X N scope cl fp C s H) tg g) (he:∀fp C s H,PE (av X N scope cl fp C s H) elt te)
  (hs:∀x,Qa iter X.env x=pure x:=by intro _;rfl) :
  PE X (.ListComp elt [⟨tg,iter,[],0⟩] scope pos) (oM wi g te tgs ix):=by
 intro pins s σ H Q I h;rw[eval_ListComp];refine Qi (use:=none) rfl hs c.clos c.kind c.names (thn (hi pins s σ H _ I h) λxv s1 h1=>thn h1 λitv s2 h2=>?_);obtain⟨it,fp,tn,J,H2,rfl,I2,T,st2,f2,W,⟨m0,w0⟩,turn⟩:=h2;have hfl:∀b∈fp,b<s2.heap.objs.size:=λb hb=>by
  obtain⟨o,e,_⟩:=T.obj _ _ st2 b hb;exact GK e
 have hcn:∀x a,cl.lookup x=some a->X.env.cells.lookup x=some a:=c.cls.get
 refine P5 (Qz c.cell (by intro y hy;simp at hy) (λh1 hns1 hsb1=>?_) c.kind);dsimp only at hns1 hsb1 ⊢;generalize hH2:s2.heap.push { cls:=.type "list",dict:=none,data:=.seq ([]:List Value).toArray }=G2 at hns1 hsb1 ⊢;have hC:G2.objs.size=s2.heap.objs.size+1:=by rw[<-hH2,IR]
 generalize hCC:G2.objs.size=C at *;generalize hDD:s2.heap.objs.size=D at *;have hDC:D≠C:=by lia
 have hCle:D<=C:=by lia
 have old:∀b o,s2.heap.get? b=some o->h1.get? b=some o:=λb o e=>by
  have lt:b<s2.heap.objs.size:=GK e;exact hsb1.extBut b o (GV (G0 (hDD▸lt) hCle)) (GD _ (hH2▸GD _ e))
 have hacc:h1.get? D=some (aB [] 0):=hsb1.extBut _ _ hDC (GD _ (hH2▸(hDD▸GT _ rfl)));have cellD:∀x a,X.env.cells.lookup x=some a->a<D:=λx a e=>by
  obtain⟨v,q⟩:=I2.cell x a e;exact hDD▸q.lt
 have fpc:∀{H':Hp}{us:List Value}{k:Nat},(∀b∈fp,H' b=none)->∀b∈fp,oD (av X N scope cl fp C s2 H2) [(D,aB us k)] H' b:=λ{H' us k} hn b hb=>by
  have lb:=hfl b hb;refine⟨hn b hb,?_,λz=>?_,.inl hb,λx a e z=>?_,λp hp=>?_⟩
  ·exact GV (G0 lb hCle)
  ·rcases GW.mp (I2.stkSub b z)with e|e
   ·exact(f2 b hb).2.1 e
   ·exact(f2 b hb).2.2.1 e
  ·exact(f2 b hb).2.2.2.2.1 x a (hcn x a e) z
  ·have:p=(D,aB us k):=by simpa [av]using hp
   rw[this];exact Ho lb
 have D_fs:D∉(av X N scope cl fp C s2 H2).fs:=λz=>by
  rcases GW.mp (I2.stkSub D z)with e|e
  ·exact absurd I2.lt (by rw[<-e,hDD];exact Hw _)
  ·exact I2.nofs (HR hDD) e
 have I3:=jg (tk:=s2.toks+([]:List (Str×Value)).length) (pins':=[(D,aB [] 0)]) c I2 f2 (λb hb=>hDD▸hfl b hb) (hDD▸hCle:s2.heap.objs.size<=C) hns1 old (λp hp=>by
  have e:p=(D,aB [] 0):=by simpa using hp
  subst e;exact⟨hacc,HR hDD,hDC,λv z=>by cases z⟩)
 have tn3:tn 0 h1:=T.keep _ _ _ st2 λb _ o e=>old b o e
 have loop:codeAny (model X.prog X.w) X.A (.compLoop (.ListComp elt [⟨tg,iter,[],0⟩] scope pos) 0 (.ref it) (.ref D) (compEnvC scope cl C X.env))
   (compPost (model X.prog X.w) X.A X.xe none (EP X pins σ Q) (.ref D) C) { s2 with heap:=h1,toks:=s2.toks+([]:List (Str×Value)).length }:=by
  refine fc (λn s'=>∃i xs us k σc H',Inv (av X N scope cl fp C s2 H2) [(D,aB us k)] σc H' s'/\tn i s'.heap/\(∀b∈fp,H' b=none)/\Vals xs us/\W i n xs σc H') ?_ m0
   ⟨0,[],[],0,_,H2,I3,tn3,λb hb=>(f2 b hb).1,.nil,w0⟩
  rintro n s4 ⟨i,xs,us,k,σ4,H4,I4,tn4,fr4,rv,w4⟩;obtain⟨hsz,tt⟩:=turn i n xs σ4 H4 w4;rcases tt with⟨stop,fin⟩|⟨go,step⟩
  ·refine thn (T.done (av X N scope cl fp C s2 H2) rfl rfl rfl hc i _ s4 σ4 H4 _ I4 (fpc fr4) tn4 stop) λr s5 ⟨hr,I5⟩=>?_
   subst hr;obtain⟨m,ns,_⟩:=I5.loc;refine⟨m,ns,λh' sb=>?_⟩;have J1:Inv X pins σ H4 s5:=I2.call' I5.os I5.base I5.hok I5.bare λb hb=>⟨(f2 b hb).2.2.2.1,(f2 b hb).2.1,(f2 b hb).2.2.2.2.1,(f2 b hb).2.2.2.2.2⟩
   have big:∀a,D<=a->a≠X.env.locals/\(a∈X.ex\/X.s₀.heap.objs.size<=a)/\(∀x y,X.env.cells.lookup x=some y->y≠a)/\∀p∈X.pn++pins,p.1≠a:=λa ha=>by
    obtain⟨q0,q1,q2,q3,q4,q5⟩:=I2.fpOk (b:=a) (H':=λ_=>none) (hDD▸ha) rfl;exact⟨q1,q3,q4,q5⟩
   obtain⟨b1,b2,b3,b4⟩:=big C hCle;have J2:Inv X pins σ H4 { s5 with heap:=h' }:=J1.turned (t':=s5.toks) (λb o hb e=>sb.extBut b o hb e) I5.free b1 b2 b3 b4;obtain⟨p1,p2,p3,p4,p5⟩:=I5.pin (D,aB us k) (by simp);obtain⟨d1,d2,d3,d4⟩:=big D (GF _);have J3:Inv X pins σ (upd H4 D (.lst xs)) { s5 with heap:=h' }:=J2.adopt p2 d1 d2 d3 d4 ⟨HK hsz,us,k,rv,sb.extBut _ _ hDC p1⟩;exact⟨.ref D,_,J3,rfl,fin D p2⟩
  ·refine thn (T.item (av X N scope cl fp C s2 H2) rfl rfl rfl hc i _ s4 σ4 H4 _ I4 (fpc fr4) tn4 go) λr s5 ⟨u,hr,h5⟩=>?_
   subst hr;refine thn h5 λ_ s6 ⟨x,H6,I6,r6,y6,tn6,fr6⟩=>?_
   have I6':=I6.pinned (fpc fr6) (T.obj _ _ tn6);refine thn (hg fp C s2 H2 _ s6 σ4 H6 x u _ I6' r6 (step x H6 y6)) λ_ s7 ⟨σ7,H7,I7,q7⟩=>?_
   refine thn (he fp C s2 H2 _ s7 σ7 H7 _ I7 q7) λyv s8 ⟨y,H8,I8,r8,m',hm,w8⟩=>?_
   obtain⟨p1,p2,p3,p4,p5⟩:=I8.pin (D,aB us k) (by simp[av]);have hsz':us.toArray.size<=P4:=by simp;rw[<-rv.length];exact HK hsz
   refine Ql (hsz:=hsz') ⟨k,p1⟩ λh' pl sb=>?_
   have tn8:tn (i+1) s8.heap:=T.keep _ _ _ tn6 λb hb o e=>(I8.pin (b,o) (GG _ (GG _ (aM hb e)))).1
   have fr8:∀b∈fp,H8 b=none:=λb hb=>by
    obtain⟨o,e,d⟩:=T.obj _ _ tn6 b hb;exact(I8.pin (b,o) (GG _ (GG _ (aM hb e)))).2.1
   have I9:Inv (av X N scope cl fp C s2 H2) [] σ7 H8 s8:=I8.pins_of λp hp=>nomatch hp
   have I10:Inv (av X N scope cl fp C s2 H2) [] σ7 H8 { s8 with heap:=h' }:=I9.turned (t':=s8.toks) (it:=D) (λb o hb e=>sb.extBut b o hb e) p2 p3 (.inr (HR hDD))
    (λx a e=>GV (cellD x a (hcn x a e))) (λp hp=>by simp[av]at hp)
   obtain⟨k',pl⟩:=pl;have eu:us.toArray.push yv=(us++[yv]).toArray:=by simp
   rw[eu]at pl;have I11:Inv (av X N scope cl fp C s2 H2) [(D,aB (us++[yv]) k')] σ7 H8 { s8 with heap:=h' }:=I10.pins_of λp hp=>by
    have e:p=(D,aB (us++[yv]) k'):=by simpa using hp
    subst e;exact⟨pl,p2,p3,p4,λv z=>by cases z⟩
   exact⟨m',hm,i+1,xs++[y],us++[yv],k',σ7,H8,I11,T.keep _ _ _ tn8 λb hb o e=>sb.extBut b o (GV (hfl b hb)) e,fr8,rv.append (.cons r8 .nil),w8⟩
 exact Qq loop (T.self _ 0 _ _ _ tn3 loop)
end
section
variable{X:Cx}
def rk(i j:Int):Prop:=0<j/\j.natAbs.log2<9000
theorem rm{j:Int}(h0:0<j)(h:j<2 ^ 64):j.natAbs.log2<9000:=by
 have:j.natAbs<2 ^ 64:=by lia
 have h2:=(O7 (by lia:j.natAbs≠0)).mpr this;lia
theorem wB:OpR X (Qf .FloorDiv) (rI rk λi j=>.int (i / j)):=opI λi j _ _ _ _ _ hc q=>by
 have e:i.fdiv j=i / j:=Lj _ (KN hc.1);exact floordiv_int (Int.ne_of_gt hc.1) (by rw[e];exact q) (.inl (JY hc.2))
theorem wC (hc:X.calm=true):cx X (.builtin "sum") (λxs H Q=>∃(p:Addr) (ns:List Int),xs=[.ref p]/\SqL X.K H p (ns.map PR)/\Q (.int ns.sum) H):=by
 intro pins s σ H xs us Q I r h;obtain⟨p,ns,rfl,hq,q⟩:=h;obtain⟨u,rfl,ru⟩:=gD r;cases ru;obtain⟨its,rv,hp,hz⟩:=I.list hq;have hi:P9 its ns:=bF rv;have hl:=hp.isList;obtain⟨zs,hx⟩:=hi.allInts.items;have hn:numsOf its.toArray.toList=ns:=by rw[show its.toArray.toList=its from rfl,hi.numsOf]
 rw[hx]at hl hn;rw[nums_intItems]at hn;refine sum_intListG (I.ok.hd hc) hl λh' tk t' hk=>?_
 refine⟨.int ns.sum,H,I.kept hk,⟨t',?_⟩,q⟩;rw[preSum_eq,GJ (by simp),hn]
theorem wD:cx X (.builtin "isinstance") (λxs H Q=>∃x t T b,xs=[x,.ty T]/\TyOf X.K H x t/\JC X.K t (.type T)=some b/\Q (.bl b) H):=by
 intro pins s σ H xs us Q I r h;obtain⟨x,t,T,b,rfl,ty,e,q⟩:=h;obtain⟨u,w',rfl,ru,rw'⟩:=zl r;cases(show w'=Im T from rw');exact sR I ru ty e λtk=>⟨.bl b,H,I.tok _,rfl,q⟩
example (K:GC):JC K (.type "int") (.type "int")=some true:=rfl
example (K:GC):JC K (.type "int") (.type "bool")=some false:=rfl
example (K:GC):JC K (.type "tuple") (.type "tuple")=some true:=rfl
end
noncomputable def bQ:Expr->Bool
 | .Starred ..=>false
 | _=>true
theorem aC{es:List Expr}{env:Env}(h:bQ e=true):starEach (e::es) env=(false,eval e env)::starEach es env:=by
 cases e<;>first|rfl|cases h
theorem gH{pos:Pos}{env:Env}:∀{es:List Expr},es.all bQ=true->(backTo pos (starEach es env)).any (·.1)=false
 | [],_=>rfl
 | e::es,h=>by
  rw[Kq,Iq]at h;rw[aC h.1];exact gH (es:=es) h.2
section
variable{X:Cx}{CX:CXT}{k:Nat}{f:Addr}{fd:FuncData}{ps:List Str}{sp:Sp}{E:XK}{x:Str}{p pos apos cpos:Pos}{e o:Expr}{es:List Expr}{te to:TE}{t:TA}{id T:String}{name:Str}
theorem FN(ha:PE X e te)(hr:PA X es t)(hn:bQ e=true:=by rfl):PA X (e::es) (qZ te t):=zn ha hr (aC hn)
theorem wE(F:FnOk X.prog X.w X.K X.mg X.base CX k f fd ps sp)(hr:Room k X.A)(hg:Gl X x)(hm:X.mg x=some (.ref f))(hk:Jf X.K (.ref f)=true)(hb:Binds X.K fd ps [])(hx:kR CX X E)
  (ha:PA X (e::es) t) (hn:(e::es).all bQ=true:=by rfl) (hdb:(x == ("__debug__" : Str))=false:=by decide):PE X (.Call (.Name x p) (e::es) [] pos) (ww sp [] E t):=by
 rw[Kq,Iq]at hn;exact zo F hr hg hm hk hb .nil hx ha hdb (aC hn.1) (gH hn.2)
theorem tE {r:List V->Hp->VK->Prop}(hc:cx X (.builtin id) r) (hg:Gl X x) (hm:X.mg x=none) (hv:bootBuiltins x=some (.builtin id)) (ha:PA X (e::es) t) (hn:(e::es).all bQ=true:=by rfl) (hn2:x≠"__name__":=by decide) (hdb:(x == ("__debug__" : Str))=false:=by decide) :
  PE X (.Call (.Name x p) (e::es) [] pos) (tCB r t):=by
 rw[Kq,Iq]at hn;exact wx hc hg hm hv ha hn2 hdb (aC hn.1) (gH hn.2)
theorem rn {r:List V->Hp->VK->Prop}(hc:cx X (.type T) r) (hg:Gl X x) (hm:X.mg x=none) (hv:bootBuiltins x=some (.type T)) (ha:PA X (e::es) t) (hn:(e::es).all bQ=true:=by rfl) (hn2:x≠"__name__":=by decide) (hdb:(x == ("__debug__" : Str))=false:=by decide) :
  PE X (.Call (.Name x p) (e::es) [] pos) (tCB r t):=by
 rw[Kq,Iq]at hn;exact sT hc hg hm hv ha hn2 hdb (aC hn.1) (gH hn.2)
theorem tF {r:V->List V->Hp->VK->Prop}(pa:PlainAttrs T) (slot:Slot T name id) (hty:typeOf (.builtin id)=pure (.type "method_descriptor")) (hm:MtR X id r) (ho:PE X o to) (ha:PA X [e] t)
  (hbase:attributeBase o name X.env (eval o X.env)=eval o X.env:=by rfl) (hline:(apos.endLine == cpos.line)=true:=by rfl) (hn:bQ e=true:=by rfl) :
  PE X (.Call (.Attribute o name apos) [e] [] cpos) (tBM X.K T r to t):=by
 refine D8 pa slot hty hm ho ha hbase ?_ hline (aC hn) rfl;rw[aC hn];rfl
end
section
variable{K:GC}{σ:St}{H:Hp}{Q:VK}{D:Ends}{E:XK}
theorem Fe{t u:TS}(h:t { D with nx:=u D } σ H):DD t u D σ H:=h
theorem Ff{te:TE}(h:te σ H λx H1=>g x σ H1 D.nx):sr te g D σ H:=h
theorem wF{R:St->Hp->Prop}(h:R (σ.set i (some v)) H):gB i v σ H R:=h
theorem Ea{t:zb}{R:St->Hp->Prop}(h:to σ H λo H1=>ti σ H1 λi H2=>t o i v H2 λH3=>R σ H3):DI to ti t v σ H R:=h
theorem Fg{te:TE}(h:te σ H D.rt):DE te D σ H:=h
theorem Eb{te:TE}(h:te σ H λ_ H1=>D.nx σ H1):y9 te D σ H:=h
theorem Ec(h:D.nx σ H):y3 D σ H:=h
theorem FO{c:TT}{t u:TS}(h:c σ H λb H1=>if b=true then t D σ H1 else u D σ H1):DF c t u D σ H:=h
theorem Fh{c:TT}{tb:TE}(h:c σ H λb H1=>if b=true then ta σ H1 Q else tb σ H1 Q):tIf c ta tb σ H Q:=h
theorem Ed{t:TE}{R:Bool->Hp->Prop}(h:t σ H λx H'=>∃k,x=.bl k/\R k H'):zj t σ H R:=h
theorem Gw{t:TE}{R:Bool->Hp->Prop}(h:t σ H λx H'=>∃k,x=.bl k/\R k H'):tB t σ H R:=h
theorem FP{b:Bool}{R:Bool->Prop}(h:R b):∃k,V.bl b=.bl k/\R k:=⟨b,rfl,h⟩
theorem Fi{t:TT}{R:Bool->Hp->Prop}(h:t σ H λc H1=>R (!c) H1):DB t σ H R:=h
theorem FQ{t u:TT}{R:Bool->Hp->Prop}(h:t σ H λc H1=>if c=true then R true H1 else u σ H1 R):tOr t u σ H R:=h
theorem Fj{t u:TT}{R:Bool->Hp->Prop}(h:t σ H λc H1=>if c=true then u σ H1 R else R false H1):DA t u σ H R:=h
theorem Gx(h:Q v H):tC v σ H Q:=h
theorem FR{r:R2}{tb:TE}(h:ta σ H λx H1=>tb σ H1 λy H2=>r x y H2 Q):tOp r ta tb σ H Q:=h
theorem FS{r:V->Hp->VK->Prop}(h:ta σ H λx H1=>r x H1 Q):tUn r ta σ H Q:=h
theorem FT{g:Int->Int->V}{i j:Int}(h:Q (g i j) H):rI0 g (.int i) (.int j) H Q:=⟨i,j,rfl,rfl,h⟩
theorem Ee{C:Int->Int->Prop}{g:Int->Int->V}{i j:Int}(c:C i j)(h:Q (g i j) H):rI C g (.int i) (.int j) H Q:=⟨i,j,rfl,rfl,c,h⟩
theorem Gy{g:Int->V}{i:Int}(h:Q (g i) H):rU g (.int i) H Q:=⟨i,rfl,h⟩
theorem Fk{i j:Int}(h:Q (.bl (decide (PR i=PR j))) H):rEq (.int i) (.int j) H Q:=⟨rfl,h⟩
theorem Fl{i j:Int}(h:Q (.bl (!decide (PR i=PR j))) H):rNe (.int i) (.int j) H Q:=⟨rfl,h⟩
theorem bB{i:Int}(s:SqL K H p xs)(a:atI xs i=some v)(h:Q v H):BC K (.ref p) (.int i) H Q:=⟨p,xs,i,v,rfl,rfl,s,a,h⟩
theorem pY{i:Int}(s:SqT K H p xs)(a:atI xs i=some v)(h:Q v H):BD K (.ref p) (.int i) H Q:=⟨p,xs,i,v,rfl,rfl,s,a,h⟩
theorem kW{k:Int}{R:Hp->Prop}(s:H p=some (.lst xs))(a:ixN xs.length k=some j)(h:R (upd H p (.lst (xs.set j v)))):rf (.ref p) (.int k) v H R:=⟨p,xs,k,j,rfl,rfl,s,a,h⟩
theorem BJ{i:Int}(s:H p=some (.lst xs))(h:∃v,atI xs i=some v/\Q v H):BC K (.ref p) (.int i) H Q:=let⟨v,a,q⟩:=h;⟨p,xs,i,v,rfl,rfl,PP s,a,q⟩
theorem zy{i:Int}(s:H p=some (.tup xs))(h:∃v,atI xs i=some v/\Q v H):BD K (.ref p) (.int i) H Q:=let⟨v,a,q⟩:=h;⟨p,xs,i,v,rfl,rfl,PQ s,a,q⟩
theorem zz{k:Int}{R:Hp->Prop}(s:H p=some (.lst xs))(h:∃j,ixN xs.length k=some j/\R (upd H p (.lst (xs.set j v)))):rf (.ref p) (.int k) v H R:=let⟨j,a,q⟩:=h;⟨p,xs,k,j,rfl,rfl,s,a,q⟩
theorem FU{r:List V->Hp->VK->Prop}{t:TA}(h:t σ H λvs H1=>r vs H1 Q):tCB r t σ H Q:=h
theorem Ef{tr:TA}{R:List V->Hp->Prop}(h:ta σ H λx H1=>tr σ H1 λxs H2=>R (x::xs) H2):qZ ta tr σ H R:=h
theorem Fm{R:List V->Hp->Prop}(h:R [] H):De σ H R:=h
theorem Eg{sp:Sp}{t:TA}(h:t σ H λvs H1=>sp (vs++[]) H1 Q E):ww sp [] E t σ H Q:=h
theorem Fn{t:TA}(h:t σ H λxs H1=>xs.length<=P4/\∀p,H1 p=none->Q (.ref p) (upd H1 p (.lst xs))):DZ t σ H Q:=h
theorem Fo{t:TA}(h:t σ H λxs H1=>xs.length<=P4/\∀p,H1 p=none->Q (.ref p) (upd H1 p (.tup xs))):DY t σ H Q:=h
theorem lA{A B:Prop}(h:A):if true=true then A else B:=by rw[if_pos rfl];exact h
theorem cr{A B:Prop}(h:B):if false=true then A else B:=by rw[if_neg G3];exact h
theorem aS{c A B:Prop}[Decidable c](h1:c->A)(h2:¬c->B):if decide c=true then A else B:=by
 by_cases h:c
 ·rw[decide_eq_true h];exact lA (h1 h)
 ·rw[decide_eq_false h];exact cr (h2 h)
theorem m8{c A B:Prop}[Decidable c](hc:c)(h:A):if decide c=true then A else B:=by rw[decide_eq_true hc];exact lA h
theorem gI{c A B:Prop}[Decidable c](hc:¬c)(h:B):if decide c=true then A else B:=by rw[decide_eq_false hc];exact cr h
theorem oN{c A B:Prop}[Decidable c](hc:c)(h:B):if(!decide c)=true then A else B:=by rw[decide_eq_true hc];exact cr h
theorem az(h:n<=1000):n<=P4:=HK (am h)
theorem Eh{i j:Int}(h1:0<j)(h2:j<2 ^ 64):rk i j:=⟨h1,rm h1 h2⟩
theorem Ei{i:Int}{e:Nat}(h1:0<b)(h2:b<=64)(h3:e<=1000):rk i ((b ^ e:Nat):Int):=by
 have hp:0<b ^ e:=Ko h1;refine⟨Ml.mpr hp,?_⟩;rw[Nc,O7 (Ho hp)];have h4:b ^ e<=64 ^ e:=M1 h2 e;have h5:(64:Nat) ^ e=2 ^ (6*e):=by rw[Nat.pow_mul]
 have h6:2 ^ (6*e)<2 ^ 9000:=Nat.pow_lt_pow_right (by decide) ⋯;lia
theorem FV{i j:Int}(h1:0<j)(h2:j<1073741824):DS i j:=⟨h1,h2⟩
theorem Ej{i j:Int}(h1:-(2 ^ 64)<i)(h2:i<2 ^ 64):CMul i j:=.inl ⟨h1,h2⟩
theorem BK{i j:Int}(h1:-(2 ^ 64)<j)(h2:j<2 ^ 64):CMul i j:=.inr ⟨h1,h2⟩
theorem FW{i j:Int}(h1:0<=j)(h2:j<=1000000)(h3:i.natAbs<2 ^ 64):AZ i j:=⟨h1,h2,h3⟩
theorem Dg(h:Q (.int 1000000000000000000) H):rI AZ (λi j=>.int (i ^ j.toNat)) (.int 10) (.int 18) H Q:=⟨10,18,rfl,rfl,⟨by decide,by decide,by decide⟩,by
 have e:(10:Int) ^ (18:Int).toNat=1000000000000000000:=by decide
 show Q (.int ((10:Int) ^ (18:Int).toNat)) H
 rw[e];exact h⟩
theorem Ek(h:Q (.int 1000000) H):rI AZ (λi j=>.int (i ^ j.toNat)) (.int 10) (.int 6) H Q:=⟨10,6,rfl,rfl,⟨by decide,by decide,by decide⟩,by
 have e:(10:Int) ^ (6:Int).toNat=1000000:=by decide
 show Q (.int ((10:Int) ^ (6:Int).toNat)) H
 rw[e];exact h⟩
theorem Dh(h:Q (.int 9007199254740992) H):rI AZ (λi j=>.int (i ^ j.toNat)) (.int 2) (.int 53) H Q:=⟨2,53,rfl,rfl,⟨by decide,by decide,by decide⟩,by
 have e:(2:Int) ^ (53:Int).toNat=9007199254740992:=by decide
 show Q (.int ((2:Int) ^ (53:Int).toNat)) H
 rw[e];exact h⟩
noncomputable abbrev RC:=List V->Hp->VK->Prop
def El:RC:=λxs H Q=>∃i,xs=[.int i]/\Q (.int (if i<0 then -i else i)) H
def zA:RC:=λxs H Q=>∃k,xs=[.bl k]/\Q (.int (if k then 1 else 0)) H
def zB:RC:=λxs H Q=>∃i j,xs=[.int i,.int j]/\Q (.int (if j<i then j else i)) H
def zC:RC:=λxs H Q=>∃i j,xs=[.int i,.int j]/\Q (.int (if j > i then j else i)) H
def BL(K:GC):RC:=λxs H Q=>∃p ys,xs=[.ref p]/\(SqL K H p ys\/SqT K H p ys)/\Q (.int ys.length) H
def Em(K:GC):RC:=λxs H Q=>∃(p:Addr) (ns:List Int),xs=[.ref p]/\SqL K H p (ns.map PR)/\Q (.int ns.sum) H
def yp(K:GC):RC:=λxs H Q=>∃x t T b,xs=[x,.ty T]/\TyOf K H x t/\JC K t (.type T)=some b/\Q (.bl b) H
def oO(K:GC):RC:=λxs H Q=>∃p ys,xs=[.ref p]/\(SqL K H p ys\/SqT K H p ys)/\∀l,H l=none->Q (.ref l) (upd H l (.lst ys))
def jh(K:GC):RC:=λxs H Q=>∃p ys,xs=[.ref p]/\((SqL K H p ys/\∀l,H l=none->Q (.ref l) (upd H l (.tup ys)))\/(SqT K H p ys/\Q (.ref p) H))
section
variable{X:Cx}
theorem BM:cx X (.builtin "abs") El:=wu
theorem BN:cx X (.type "int") zA:=λpins s σ H xs us Q I r h=>sP pins s σ H xs us Q I r (.inr h)
theorem BO (hc:X.calm=true):cx X (.builtin "min") zB:=sO hc
theorem BP (hc:X.calm=true):cx X (.builtin "max") zC:=sN hc
theorem BQ:cx X (.builtin "len") (BL X.K):=mZ
theorem BR (hc:X.calm=true):cx X (.builtin "sum") (Em X.K):=wC hc
theorem BS:cx X (.builtin "isinstance") (yp X.K):=wD
theorem zD:cx X (.type "list") (oO X.K):=m5
theorem wG:cx X (.type "tuple") (jh X.K):=ly
end
theorem Fp{i:Int}(h:Q (.int (if i<0 then -i else i)) H):El [.int i] H Q:=⟨i,rfl,h⟩
theorem En{k:Bool}(h:Q (.int (if k then 1 else 0)) H):zA [.bl k] H Q:=⟨k,rfl,h⟩
theorem Fq{i j:Int}(h:Q (.int (if j<i then j else i)) H):zB [.int i,.int j] H Q:=⟨i,j,rfl,h⟩
theorem Fr{i j:Int}(h:Q (.int (if j > i then j else i)) H):zC [.int i,.int j] H Q:=⟨i,j,rfl,h⟩
theorem aH(s:SqL K H p ys)(h:Q (.int ys.length) H):BL K [.ref p] H Q:=⟨p,ys,rfl,.inl s,h⟩
theorem tG(s:SqT K H p ys)(h:Q (.int ys.length) H):BL K [.ref p] H Q:=⟨p,ys,rfl,.inr s,h⟩
theorem iS{ns:List Int}(s:SqL K H p (ns.map PR))(h:Q (.int ns.sum) H):Em K [.ref p] H Q:=⟨p,ns,rfl,s,h⟩
theorem Di {i:Int}(h:Q (.bl true) H):yp K [.int i,.ty "int"] H Q:=⟨_,_,_,_,rfl,.int i,rfl,h⟩
theorem Dj {i:Int}(h:Q (.bl false) H):yp K [.int i,.ty "bool"] H Q:=⟨_,_,_,_,rfl,.int i,rfl,h⟩
theorem wH (s:H p=some (.tup xs)) (h:Q (.bl true) H):yp K [.ref p,.ty "tuple"] H Q:=⟨_,_,_,_,rfl,.tup s,rfl,h⟩
theorem tH(s:SqL K H p ys\/SqT K H p ys)(h:∀l,H l=none->Q (.ref l) (upd H l (.lst ys))):oO K [.ref p] H Q:=⟨p,ys,rfl,s,h⟩
theorem gJ(s:SqL K H p ys)(h:∀l,H l=none->Q (.ref l) (upd H l (.tup ys))):jh K [.ref p] H Q:=⟨p,ys,rfl,.inl ⟨s,h⟩⟩
theorem tI(s:SqT K H p ys)(h:Q (.ref p) H):jh K [.ref p] H Q:=⟨p,ys,rfl,.inr ⟨s,h⟩⟩
theorem im{r:Int}(h0:0<=r)(h1:r<xs.length):∃v,atI xs r=some v/\v∈xs:=by
 have hl:r.toNat<xs.length:=by lia
 have e:r=(r.toNat:Int):=by lia
 refine⟨xs[r.toNat],?_,GU hl⟩;have:=aU (xs:=xs) (j:=r.toNat) (v:=xs[r.toNat]) (by simp[hl]);rw[<-e]at this;exact this
theorem Ft (h:wi σ H λJ H1=>∃W:Nat->Nat->St->Hp->Prop,(∃m,W 0 m σ H1)/\∀i m σ H,W i m σ H->
 (J.stop i H/\D.nx σ H)\/(J.go i H/\∃N:St->Hp->Prop,(∀σ' H',N σ' H'->∃m',m'<m/\W (i+1) m' σ' H')/\∀x H',J.yld i H x H'->g x σ H' λσ2 H2=>tb { D with nx:=N,ct:=N,bk:=D.nx } σ2 H2)):DN wi g tb D σ H:=h
theorem Eo{ta:TA}{R:It->Hp->Prop}(h:ta σ H λvs H1=>∃j:Int,vs=[.int j]/\-(2 ^ 62)<=j/\j<2 ^ 62/\R (Itr 0 j.toNat) H1):zg ta σ H R:=h
theorem Dk{tl:TE}{R:It->Hp->Prop}(h:tl σ H λx H1=>∃a,x=.ref a/\(∃xs,SqL K H1 a xs)/\R (Itl K a) H1):ze K tl σ H R:=h
theorem Ep{tl:TE}{R:It->Hp->Prop}(h:tl σ H λx H1=>∃a,x=.ref a/\(∃xs,SqT K H1 a xs)/\R (Itt K a) H1):DM K tl σ H R:=h
theorem FX{A B:Prop}(h:B):if(!true)=true then A else B:=cr h
theorem FY{A B:Prop}(h:A):if(!false)=true then A else B:=lA h
theorem Er {te:TE}{tgs:List Str}(h:wi σ H λJ H1=>
 ∃W:Nat->Nat->List V->St->Hp->Prop,(∃m,W 0 m [] (di tgs ix σ) H1)/\∀i m xs σc H,W i m xs σc H->xs.length<P4/\
  ((J.stop i H/\∀p,H p=none->Q (.ref p) (upd H p (.lst xs)))\/(J.go i H/\∀x H',J.yld i H x H'->g x σc H' λσ2 H2=>te σ2 H2 λy H3=>∃m',m'<m/\W (i+1) m' (xs++[y]) σ2 H3))):oM wi g te tgs ix σ H Q:=h
theorem dvp(n b k:Nat):n / b ^ k / b=n / b ^ (k+1):=by rw[Mu,JF]
theorem wI{pl:Nat}(hb:2<=b)(h:0<n / b ^ pl):2 ^ (pl+1)<=2*n+1:=by
 have h1:b ^ pl<=n:=(NR.mp h).2;have h2:2 ^ pl<=b ^ pl:=M1 hb pl;rw[JF];lia
def Tape(H:Hp)(p:Addr):Prop:=∃a b c:Int,H p=some (.lst [.int a,.int b,.int c])/\0<=a
structure Stp (p:Addr) (H H':Hp):Prop where
 keep:∀q o,H q=some o->q≠p->H' q=some o
 tape:Tape H' p
theorem Stp.refl(t:Tape H p):Stp p H H:=⟨λ_ _ h _=>h,t⟩
theorem Stp.trans(a:Stp p H H1)(b:Stp p H1 H2):Stp p H H2:=⟨λq o h n=>b.keep q o (a.keep q o h n) n,b.tape⟩
theorem Tape.mk{a b c:Int}(h:0<=a):Stp p H (upd H p (.lst [.int a,.int b,.int c])):=⟨λq o e n=>by rw[ai n];exact e,⟨a,b,c,aa,h⟩⟩
theorem Stp.new(a:Stp p H H1)(h:H1 q=none):Stp p H (upd H1 q o):=by
 obtain⟨x,y,z,e,n⟩:=a.tape;exact⟨λb u e1 e2=>by rw[ai (ae (a.keep b u e1 e2) h)];exact a.keep b u e1 e2,⟨x,y,z,by rw[ai (ae e h)];exact e,n⟩⟩
theorem Tape.ne(t:Tape H p)(h:H q=none):q≠p:=by
 obtain⟨a,b,c,e,_⟩:=t;exact λz=>ae e h z.symm
theorem Tape.same(t:Tape H p)(s:Same H H1):Tape H1 p:=by
 obtain⟨a,b,c,e,n⟩:=t;exact⟨a,b,c,s _ _ e,n⟩
def BT(K:GC):Sp:=λvs H Q _=>∃(a:Addr) (ns:List Int) (k:Int),vs=[.ref a,.int k]/\SqL K H a (ns.map PR)/\0<=k/\
 ∀p H',H p=none->Same H H'->Tape H' p->Q (.ref p) H'
def BU:Sp:=λvs H Q _=>∃(p:Addr) (m:Int),vs=[.ref p,.int m]/\Tape H p/\0<m/\m<2 ^ 64/\∀r H',0<=r->r<m->Stp p H H'->Q (.int r) H'
def BV:Sp:=λvs H Q _=>∃(p:Addr),vs=[.ref p]/\Tape H p/\∀r H',2<=r->r<=64->Stp p H H'->Q (.int r) H'
def zE:Sp:=λvs H Q _=>∃(b m:Nat),vs=[.int b,.int m]/\b<=64/\m<2 ^ 62/\Q (.int ((b ^ m:Nat):Int)) H
def wJ:Sp:=λvs H Q _=>∃(p:Addr) (b:Int),vs=[.ref p,.int b]/\Tape H p/\2<=b/\b<=64/\∀n H',0<=n->n<10 ^ 18->Stp p H H'->Q (.int n) H'
end
structure QE (X:Cx) (e:Expr) (t:TE):Prop where
 out:PE X e t
structure QT (X:Cx) (e:Expr) (t:TT):Prop where
 out:PT X e t
structure QW (X:Cx) (e:Expr) (t:TT):Prop where
 out:PW X e t
structure QA (X:Cx) (es:List Expr) (t:TA):Prop where
 out:PA X es t
structure QO (X:Cx) (e:Option Expr) (t:TO):Prop where
 out:PO X e t
structure QI (X:Cx) (tg iter:Expr) (t:TI):Prop where
 out:PI X tg iter t
structure QG (X:Cx) (tg:Expr) (t:TG):Prop where
 out:PG X tg t
structure QGs (X:Cx) (ts:List Expr) (t:TGs):Prop where
 out:PGs X ts t
structure QS (X:Cx) (st:Stmt) (t:TS):Prop where
 out:PS X st t
structure QB (X:Cx) (sts:List Stmt) (t:TS):Prop where
 out:PSs X sts t
structure QOp (X:Cx) (f:Value->Value->Sem Value) (r:R2):Prop where
 out:OpR X f r
structure QUn (X:Cx) (f:Value->Sem Value) (r:V->Hp->VK->Prop):Prop where
 out:UnR X f r
structure QC (X:Cx) (f:Value) (r:List V->Hp->VK->Prop):Prop where
 out:cx X f r
structure QIx (X:Cx) (r:R2):Prop where
 out:IxR X r
structure QSl (X:Cx) (r:V->Option Int->Option Int->Hp->VK->Prop):Prop where
 out:SlR X r
noncomputable def Fu:Expr->Bool
 | .Slice ..=>false
 | _=>true
theorem wK{b:Expr}(h:Fu b=true):sW b:=by
 cases b<;>first|(intro _ _;rfl)|cases h
def Fv(K:GC)(ta:TE):TT:=λσ H Q=>ta σ H λx H'=>∃k,A0 K x H' k/\Q k H'
section
variable{X:Cx}{a b c e o:Expr}{es rest:List Expr}{ta tb tc te to ti:TE}{tA tB':TT}{t:TA}{pos p p2 apos cpos:Pos}{r r':R2}{x:Str}
theorem qv (i:Nat){x:Str}{pos:Pos}(hN:X.N[i]? = some x:=by rfl) (hv:Vis X.env.scope x:=by first | exact GI rfl | exact Iu (GI rfl) | exact Iu (Iu rfl)) (hd:(x == ("__debug__" : Str))=false:=by decide)
  (hcd:(x == ("__classdict__" : Str))=false:=by decide):QE X (.Name x pos) (Dy i):=⟨Ba hN hv hd hcd⟩
theorem af{i j pos}:QE X (.Constant (.int i) j pos) (tC (.int i)):=⟨ye⟩
theorem jy{b j pos}:QE X (.Constant (.bool b) j pos) (tC (.bl b)):=⟨Dz⟩
theorem bX{x j pos}:QE X (.Constant (.str x) j pos) (tC (.str x)):=⟨Bb⟩
theorem fe (hg:Gl X x) (hm:X.mg x=none) (hv:bootBuiltins x=some u) (r:RelV v u) (hn:x≠"__name__":=by decide) (hd:(x == ("__debug__" : Str))=false:=by decide):QE X (.Name x pos) (tC v):=⟨y0 hg hm hv r hn hd⟩
theorem ax{op:Operator}(ho:QOp X (Qf op) r)(ha:QE X a ta)(hb:QE X b tb):QE X (.BinOp a op b pos) (tOp r ta tb):=⟨DP ho.out ha.out hb.out⟩
theorem jz{op:UnaryOp}{r:V->Hp->VK->Prop}(ho:QUn X (unaryOp op) r)(ha:QE X a ta):QE X (.UnaryOp op a pos) (tUn r ta):=⟨Bp ho.out ha.out⟩
theorem oP{op:CmpOp}(ho:QOp X (Qc op) r)(ha:QE X a ta)(hb:QE X b tb)(hm:QQ op b=false):QE X (.Compare a [op] [b] pos) (tOp r ta tb):=⟨zi ho.out ha.out hb.out hm⟩
theorem aD{op:CmpOp}(ho:QOp X (Qc op) r)(ha:QE X a ta)(hb:QE X b tb)(hm:QQ op b=false):QT X (.Compare a [op] [b] pos) (zj (tOp r ta tb)):=⟨zk ho.out ha.out hb.out hm⟩
theorem kX(ha:QT X a tA):QT X (.UnaryOp .Not a pos) (DB tA):=⟨Bf ha.out⟩
theorem ff(h:QE X a ta)(he:∀whole,isTrue a X.env whole=(do let v <-whole;standAt a.pos;Qo [v] (truthy v)):=by intro _;rfl):QT X a (tB ta):=⟨Bc h.out he⟩
theorem ji{K:GC}(h:QE X a ta)(he:∀whole,isTrue a X.env whole=(do let v <-whole;standAt a.pos;Qo [v] (truthy v)):=by intro _;rfl)(hK:X.K=K:=by rfl):QT X a (Fv K ta):=by subst hK;exact⟨wt h.out he⟩
theorem tJ(ha:QT X a tA):QW X (.BoolOp .And [a] pos) tA:=⟨y2 ha.out⟩
theorem iT(ha:QT X a tA):QW X (.BoolOp .Or [a] pos) tA:=⟨Bd ha.out⟩
theorem yq(ha:QT X a tA)(hb:QW X (.BoolOp .And (b::rest) pos) tB'):QW X (.BoolOp .And (a::b::rest) pos) (DA tA tB'):=⟨Be ha.out hb.out⟩
theorem lB(ha:QT X a tA)(hb:QW X (.BoolOp .Or (b::rest) pos) tB'):QW X (.BoolOp .Or (a::b::rest) pos) (tOr tA tB'):=⟨DC ha.out hb.out⟩
theorem QW.qt(h:QW X e tA):QT X e tA:=⟨h.out.pt⟩
theorem wL(hc:QT X c tA)(ha:QE X a ta)(hb:QE X b tb):QE X (.IfExp c a b pos) (tIf tA ta tb):=⟨wf hc.out ha.out hb.out⟩
theorem ac:QA X [] De:=⟨Bw⟩
theorem ag(ha:QE X e te)(hr:QA X es t)(hn:bQ e=true:=by rfl):QA X (e::es) (qZ te t):=⟨FN ha.out hr.out hn⟩
theorem ba(h:QA X es t):QE X (.List es pos) (DZ t):=⟨By h.out⟩
theorem aT{x1}(h:QA X es t):QE X (.Tuple es x1 pos) (DY t):=⟨Bx h.out⟩
theorem aJ(hr:QIx X r)(ha:QE X a ta)(hb:QE X b tb)(hs:Fu b=true:=by rfl):QE X (.Subscript a b pos) (tOp r ta tb):=⟨D5 hr.out ha.out hb.out (wK hs)⟩
theorem oQ:QO X none oF:=⟨zr⟩
theorem bN(h:QE X e te):QO X (some e) (zq te):=⟨zt h.out⟩
theorem cJ{r:V->Option Int->Option Int->Hp->VK->Prop}{lo hi:Option Expr}{tl th:TO}(hr:QSl X r)(he:QE X e te)(hl:QO X lo tl)(hu:QO X hi th):QE X (.Subscript e (.Slice lo hi none p2) pos) (tSl r te tl th):=⟨wA hr.out he.out hl.out hu.out⟩
theorem ap {id:String}{r:RC}(hc:QC X (.builtin id) r) (hg:Gl X x) (hm:X.mg x=none) (hv:bootBuiltins x=some (.builtin id)) (ha:QA X (e::es) t) (hn:(e::es).all bQ=true:=by rfl) (hn2:x≠"__name__":=by decide) (hdb:(x == ("__debug__" : Str))=false:=by decide) :
  QE X (.Call (.Name x p) (e::es) [] pos) (tCB r t):=⟨tE hc.out hg hm hv ha.out hn hn2 hdb⟩
theorem aP {T:String}{r:RC}(hc:QC X (.type T) r) (hg:Gl X x) (hm:X.mg x=none) (hv:bootBuiltins x=some (.type T)) (ha:QA X (e::es) t) (hn:(e::es).all bQ=true:=by rfl) (hn2:x≠"__name__":=by decide) (hdb:(x == ("__debug__" : Str))=false:=by decide) :
  QE X (.Call (.Name x p) (e::es) [] pos) (tCB r t):=⟨rn hc.out hg hm hv ha.out hn hn2 hdb⟩
theorem ak{CX:CXT}{k:Nat}{f:Addr}{fd:FuncData}{ps:List Str}{sp:Sp}{E:XK}(F:FnOk X.prog X.w X.K X.mg X.base CX k f fd ps sp)(hr:Room k X.A)(hg:Gl X x)(hm:X.mg x=some (.ref f))(hk:Jf X.K (.ref f)=true)(hb:Binds X.K fd ps [])(hx:kR CX X E)
  (ha:QA X (e::es) t) (hn:(e::es).all bQ=true:=by rfl) (hdb:(x == ("__debug__" : Str))=false:=by decide):QE X (.Call (.Name x p) (e::es) [] pos) (ww sp [] E t):=⟨wE F hr hg hm hk hb hx ha.out hn hdb⟩
theorem be {K:GC}(ho:QE X o to) (ha:QA X [e] t) (hbase:attributeBase o ("append" : Str) X.env (eval o X.env)=eval o X.env:=by rfl) (hline:(apos.endLine == cpos.line)=true:=by rfl) (hn:bQ e=true:=by rfl) (hK:X.K=K:=by rfl) :
  QE X (.Call (.Attribute o "append" apos) [e] [] cpos) (tBM K "list" oH to t):=by subst hK;exact⟨tF Jt PySem.F.slot_list_append PySem.F.type_list_append sX ho.out ha.out hbase hline hn⟩
variable{tg iter:Expr}{wi:TI}{g:TG}{i:Nat}{u:TGs}
theorem bT {p pos:Pos}(hg:Gl X "range") (hm:X.mg "range" = none) (ha:QA X [a] t) (hn:bQ a=true:=by rfl):QI X tg (.Call (.Name "range" p) [a] [] pos) (zg t):=⟨sI hg hm ha.out (aC hn)⟩
theorem aE{K:GC}(hl:QE X e te)(hK:X.K=K:=by rfl):QI X tg e (ze K te):=by subst hK;exact⟨zf hl.out⟩
theorem jA{K:GC}(hl:QE X e te)(hK:X.K=K:=by rfl):QI X tg e (DM K te):=by subst hK;exact⟨Bm hl.out⟩
theorem ah(hN:X.N.Nodup)(hi:X.N[i]? = some x)(hx:Loc X.env.scope x)(hf:X.fn x=true\/X.env.scope.names.lookup x=some .local:=by first|exact .inl rfl|exact .inr rfl|assumption):QG X (.Name x pos) (gB i):=⟨zc hN hi hx hf⟩
theorem aQ:QGs X [] Dc:=⟨zd⟩
theorem aq{ts:List Expr}(h1:QG X e g)(h2:QGs X ts u)(hs:(Qn (e::ts) X.env).map (·.2)=assign e X.env::(Qn ts X.env).map (·.2):=by rfl):QGs X (e::ts) (oB g u):=⟨wk h1.out h2.out hs⟩
theorem bp{K:GC}{ts:List Expr}{k:Nat}(hc:X.calm=true)(h:QGs X ts u)(hn:(Qn ts X.env).length=n:=by rfl)(hst:(Qn ts X.env).findIdx? (·.1)=none:=by rfl)(hK:X.K=K:=by rfl):QG X (.Tuple ts k pos) (Dd K n u):=by subst hK;exact⟨Bh hc h.out hn hst⟩
variable{st:Stmt}{sts s1 s2:List Stmt}{T1 T2:TS}
theorem bi:QB X [] y3:=⟨y4⟩
theorem ad(h1:QS X st T1)(h2:QB X sts T2):QB X (st::sts) (DD T1 T2):=⟨wg h1.out h2.out⟩
theorem aj(h1:QS X st T1):QB X [st] T1:=⟨y7 h1.out⟩
theorem au(he:QE X e te):QS X (.Return (some e) pos) (DE te):=⟨Bg he.out⟩
theorem pZ:QS X st yf:=⟨wj⟩
theorem bx(he:QE X e te)(hs:QL e none pos.line X.env=pure false:=by rfl):QS X (.Expr e pos) (y9 te):=⟨za he.out hs⟩
theorem bR(hc:QT X c tA)(ha:QB X s1 T1)(hb:QB X s2 T2):QS X (.If c s1 s2 pos) (DF tA T1 T2):=⟨DG hc.out ha.out hb.out⟩
theorem ar(hN:X.N.Nodup)(hi:X.N[i]? = some x)(hx:Loc X.env.scope x)(he:QE X e te)(hs:QL e (some (.Name x pos')) pos.line X.env=pure false:=by rfl)(hf:X.fn x=true\/X.env.scope.names.lookup x=some .local:=by first|exact .inl rfl|exact .inr rfl|assumption):
  QS X (.Assign [.Name x pos'] e pos) (sr te (gB i)):=⟨Bj hN hi hx he.out hs hf⟩
theorem kY{tpos:Pos}(he:QE X e te)(ho:QE X o to)(hi:QE X b tb)
  (ha:∀v,assign (.Subscript o b tpos) X.env v=(do
   let ov <-Qo [v] (eval o X.env)
   let iv <-Qo [v,ov] (eval b X.env)
   standAt tpos
   Qo [v,ov,iv] (setItem ov iv v)
   release [v,ov,iv] []):=by intro _;rfl)
  (hs:QN [.Subscript o b tpos] e pos.line X.env=pure false:=by rfl) (hw:QP [.Subscript o b tpos] e X.env=pure none:=by rfl)
  (h1:(Qn [.Subscript o b tpos] X.env).map (·.2)=[assign (.Subscript o b tpos) X.env]:=by rfl):QS X (.Assign [.Subscript o b tpos] e pos) (sr te (DI to tb rf)):=⟨su he.out (Bi ho.out hi.out lw ha) hs hw h1⟩
theorem iU{op:Operator}{ti:R2}(hN:X.N.Nodup)(hi:X.N[i]? = some x)(hx:Loc X.env.scope x)(he:QE X e te)(ho:QOp X (inplaceOp op) ti)(hf:X.fn x=true\/X.env.scope.names.lookup x=some .local:=by first|exact .inl rfl|exact .inr rfl|assumption):
  QS X (.AugAssign (.Name x pos') op e pos) (DK i te ti):=⟨Bl hN hi hx he.out ho.out hf⟩
theorem p6{i:Nat}{x y:Str}{a b:Expr}{ta:TA}{px pt:Pos}{kt k2 pt2}(hc:X.calm=true)(hN:X.N.Nodup)(hi:X.N[i]? = some x)(hj:X.N[j]? = some y)(hij:i≠j)
  (hx:X.env.scope.names.lookup x=some .local) (hy:X.env.scope.names.lookup y=some .local) (ha:QA X [a,b] ta)
  (hw:QP [.Tuple [.Name x px,.Name y py] kt pt] (.Tuple [a,b] k2 pt2) X.env=pure (some [x,y]):=by rfl)
  (hs:QN [.Tuple [.Name x px,.Name y py] kt pt] (.Tuple [a,b] k2 pt2) pos.line X.env=pure false:=by rfl) :
  QS X (.Assign [.Tuple [.Name x px,.Name y py] kt pt] (.Tuple [a,b] k2 pt2) pos) (DJ i j ta):=⟨Bk hc hN hi hj hij hx hy ha.out hw hs⟩
theorem dX(hp:PassesOwn (model X.prog X.w) X.A X.env X.xe)(hc:QT X c tA)(hb:QB X sts T1):QS X (.While c sts [] pos) (yh tA T1):=⟨wn hp hc.out hb.out⟩
theorem bC(hp:PassesOwn (model X.prog X.w) X.A X.env X.xe)(hc:X.calm=true)(hi:QI X tg iter wi)(hg:QG X tg g)(hb:QB X sts T1)(hs:∀x,Qa iter X.env x=pure x:=by intro _;rfl):QS X (.For tg iter sts [] pos) (DN wi g T1):=⟨Bo hp hc hi.out hg.out hb.out hs⟩
theorem aN{N tgs frs:List Str}{cl:List (Str×Addr)}(c:CompOk X N tgs frs ix scope cl)(hc:X.calm=true)(hi:QI X tg iter wi)
  (hg:∀fp C s H,QG (av X N scope cl fp C s H) tg g) (he:∀fp C s H,QE (av X N scope cl fp C s H) elt te)
  (hs:∀x,Qa iter X.env x=pure x:=by intro _;rfl) :
  QE X (.ListComp elt [⟨tg,iter,[],0⟩] scope pos) (oM wi g te tgs ix):=⟨zx c hc hi.out (λfp C s H=>(hg fp C s H).out) (λfp C s H=>(he fp C s H).out) hs⟩
theorem ca:QOp X (Qf .Add) (rI0 λi j=>.int (i+j)):=⟨Bq⟩
theorem cK:QOp X (Qf .Sub) (rI0 λi j=>.int (i - j)):=⟨Br⟩
theorem i7:QOp X (Qf .Mult) (rI CMul λi j=>.int (i*j)):=⟨Bs⟩
theorem dl:QOp X (Qf .FloorDiv) (rI rk λi j=>.int (i / j)):=⟨wB⟩
theorem jB:QOp X (Qf .Mod) (rI (λ_ j=>0<j) λi j=>.int (i % j)):=⟨Bt⟩
theorem oR:QOp X (Qf .Pow) (rI AZ λi j=>.int (i ^ j.toNat)):=⟨Bu⟩
theorem zF:QOp X (Qf .Add) Fc:=⟨BH⟩
theorem wM:QOp X (Qf .Mult) Fd:=⟨BI⟩
theorem v0:QOp X (Qc .Eq) rEq:=⟨DT⟩
theorem Es:QOp X (Qc .NotEq) rNe:=⟨DU⟩
theorem yr:QOp X (Qc .Lt) (rI0 λi j=>.bl (decide (i<j))):=⟨DV⟩
theorem wa:QOp X (Qc .Gt) (rI0 λi j=>.bl (decide (j<i))):=⟨DW⟩
theorem Fw:QOp X (Qc .GtE) (rI0 λi j=>.bl (decide (j<=i))):=⟨DX⟩
theorem kZ:QOp X (inplaceOp .Add) (rI0 λi j=>.int (i+j)):=⟨zh⟩
theorem tK:QOp X (inplaceOp .FloorDiv) (rI DS λi j=>.int (i / j)):=⟨wq⟩
theorem jC:QUn X (unaryOp .USub) (rU λi=>.int (-i)):=⟨yi⟩
theorem bg{K:GC}(hK:X.K=K:=by rfl):QIx X (BC K):=by subst hK;exact⟨ix_list⟩
theorem gK{K:GC}(hK:X.K=K:=by rfl):QIx X (BD K):=by subst hK;exact⟨ix_tup⟩
theorem oS{K:GC}(hK:X.K=K:=by rfl):QSl X (Df K):=by subst hK;exact⟨zu⟩
theorem tL:QC X (.builtin "abs") El:=⟨BM⟩
theorem yt:QC X (.type "int") zA:=⟨BN⟩
theorem tM (hc:X.calm=true):QC X (.builtin "min") zB:=⟨BO hc⟩
theorem BW (hc:X.calm=true):QC X (.builtin "max") zC:=⟨BP hc⟩
theorem aW {K:GC}(hK:X.K=K:=by rfl):QC X (.builtin "len") (BL K):=by subst hK;exact⟨BQ⟩
theorem jD {K:GC}(hc:X.calm=true) (hK:X.K=K:=by rfl):QC X (.builtin "sum") (Em K):=by subst hK;exact⟨BR hc⟩
theorem p7 {K:GC}(hK:X.K=K:=by rfl):QC X (.builtin "isinstance") (yp K):=by subst hK;exact⟨BS⟩
theorem zG {K:GC}(hK:X.K=K:=by rfl):QC X (.type "list") (oO K):=by subst hK;exact⟨zD⟩
theorem bL {K:GC}(hK:X.K=K:=by rfl):QC X (.type "tuple") (jh K):=by subst hK;exact⟨wG⟩
end
section
variable{P:Program}{w:World}{K:GC}{mg:Str->Option Value}{base:Heap}
theorem Fun.okQ{f:Addr}{fd:FuncData}{N ps:List Str}{k:Nat}{sp:Sp}(F:Fun K x qual st f fd)(S:FnScope N ps (ao st))(len:∀vs H Q E,sp vs H Q E->vs.length=ps.length)
  (hbody:∀(cdv:Value) (A:Around) (outer:List Env) (s:Shared) (H:Hp) (vs:List V) (Q:VK) (E:XK),Room k (A.deeper (envOfC qual (ao st) s.heap.objs.size f cdv))->sp vs H Q E->
   ∃t,QB (yl CX0 P w K mg base N qual (ao st) f cdv A outer s H E).nox (fb st) t/\t { nx:=λ_ H'=>Q .non H',rt:=Q } (start N vs) H):FnOk P w K mg base CX0 (k+1) f fd ps sp:=
 F.ok S len λcdv A outer s H vs Q E hr hsp=>by
  obtain⟨t,h,q⟩:=hbody cdv A outer s H vs Q E hr hsp;exact⟨t,h.out,q⟩
end
def Et(K:GC)(te:TE):TE:=λσ H Q=>te σ H λx H1=>∃a xs,x=.ref a/\SqL K H1 a xs/\∀p,H1 p=none->Q (.ref p) (upd H1 p (.lst xs.reverse))
section
variable{X:Cx}{e:Expr}{te:TE}{pos p1 p2 p3:Pos}{j:Nat}
theorem BX(he:PE X e te):PE X (.Subscript e (.Slice none none (some (.UnaryOp .USub (.Constant (.int 1) j p1) p2)) p3) pos) (Et X.K te):=by
 intro pins s σ H Q I h;refine Subscript_ (thn (he pins s σ H _ I h) λv s1 ⟨x,H1,I1,r1,q1⟩=>?_);obtain⟨a,xs,rfl,hx,q⟩:=q1;cases r1;refine wpAny_Slice (evalPart_none_step (evalPart_none_step (evalPart_some_step ?_)));refine thn (Bp (X:=X) yi ye pins s1 σ H1 (λx H'=>x=.int (-1)/\H'=H1) I1 ⟨1,rfl,rfl,rfl⟩) λvk s2 ⟨y,H2,I2,r2,e2,e3⟩=>?_
 subst e2 e3;obtain⟨t,rfl⟩:=r2;have I4:Inv X pins σ H2 { s2 with heap:=s2.heap.push { cls:=.type "slice",data:=.fields #[.none,.none,.int (-1) t] } }:=I2.kept (t':=s2.toks) λb ob q=>GD _ q
 obtain⟨its,r,ht,hz⟩:=I4.list hx;have hlen:=r.length;show wpAny (model X.prog X.w) X.A (subscriptTail e (.Slice none none (some (.UnaryOp .USub (.Constant (.int 1) j p1) p2)) p3) (.ref a) (.ref s2.heap.objs.size)) (EP X pins σ Q) X.xe { s2 with heap:=s2.heap.push { cls:=.type "slice",data:=.fields #[.none,.none,.int (-1) t] } }
 refine tail_any (ops:=[.ref a,.ref s2.heap.objs.size]) ht.isList.typeIs slot_list_getitem.lookup ?_ (by with_unfolding_all rfl);refine wpAny_getItem_list_slice ht.isList (La ..) .none .none (.int (-1) t) (by decide) ?_ (by rw[GO];lia);rw[PySem.W.krv_pick];refine⟨.ref _,_,I4.laid (t':=s2.toks) (o:=.lst xs.reverse) (λb ob q=>GD _ q) (GF _) ?_,rfl,q _ (I4.hok.fresh (GF _))⟩;exact⟨by rw[IN];exact hz,its.reverse,0,r.reverse,GT _ rfl⟩
theorem yu{K:GC}(he:QE X e te)(hK:X.K=K:=by rfl):QE X (.Subscript e (.Slice none none (some (.UnaryOp .USub (.Constant (.int 1) j p1) p2)) p3) pos) (Et K te):=by subst hK;exact⟨BX he.out⟩
end
section
variable{X:Cx}
end
section
variable{K:GC}{σ:St}{H:Hp}{Q:VK}{D:Ends}
theorem Fx{te:TE}(h:te σ H λx H1=>∃a xs,x=.ref a/\SqL K H1 a xs/\∀p,H1 p=none->Q (.ref p) (upd H1 p (.lst xs.reverse))):Et K te σ H Q:=h
theorem Eu{tb:TE}(h:ta σ H λx H1=>tb σ H1 λy H2=>(λx y=>∃v w,[x,y]=[v,w]/\D.nx ((σ.set i (some v)).set j (some w)) H2) x y):DJ i j (qZ ta (qZ tb De)) D σ H:=h
theorem zH{x:V}{R:V->V->Prop}(h:R x y):∃v w,[x,y]=[v,w]/\R v w:=⟨x,y,rfl,h⟩
theorem FZ{r:V->List V->Hp->VK->Prop}{t:TA}{T:String}(h:to σ H λx H1=>tyV K T x H1/\t σ H1 λxs H2=>r x xs H2 Q):tBM K T r to t σ H Q:=h
theorem aL(s:H l=some (.lst xs))(z:xs.length<P4)(h:Q .non (upd H l (.lst (xs++[y])))):oH (.ref l) [y] H Q:=⟨l,xs,y,rfl,rfl,s,z,h⟩
theorem aX (h:H l=some (.lst xs)):tyV K "list" (.ref l) H:=.inl ⟨rfl,_,PP h⟩
theorem Same.tup{H1:Hp}{a:Addr}{xs:List V}(e:Same H H1)(h:SqT K H a xs):SqT K H1 a xs:=by
 rcases h with(h|⟨o,h⟩)|h
 ·exact .inl (.inl (e _ _ h))
 ·exact .inl (.inr ⟨o,e _ _ h⟩)
 ·exact .inr h
theorem Same.new(e:Same H H1)(h:H1 p=none):Same H (upd H1 p o):=λb u q=>by rw[ai (ae (e b u q) h)];exact e b u q
theorem Same.own(e:Same H H1)(h:H p=none):Same H (upd H1 p o):=λb u q=>by rw[ai (ae q h)];exact e b u q
theorem Stp.same{p:Addr}{H1 H2:Hp}(s:Stp p H H1)(e:Same H1 H2):Stp p H H2:=⟨λq o h n=>e q o (s.keep q o h n),s.tape.same e⟩
end
def Nx(n i:Nat)(P:Prop):Prop:=∃m',m'<n - i/\m'=n - (i+1)/\i+1<=n/\P
theorem Nx.mk{P:Prop}(h:i<n)(p:P):Nx n i P:=⟨n - (i+1),by lia,rfl,h,p⟩
section
variable{K:GC}{H:Hp}{g:TG}{te:TE}{σ0:St}{R:List V->Hp->Prop}
theorem lC(Pv:Nat->List V->St->Hp->Prop)(hz:n<P4)(hl:∀i ys σ H,Pv i ys σ H->ys.length=i)(h0:Pv 0 [] σ0 H)
  (hs:∀i ys σ H,i<n->Pv i ys σ H->g (.int (0+i)) σ H λσ2 H2=>te σ2 H2 λy H3=>Nx n i (Pv (i+1) (ys++[y]) σ2 H3)) (hd:∀ys σ H,Pv n ys σ H->R ys H) :
  ∃W:Nat->Nat->List V->St->Hp->Prop,(∃m,W 0 m [] σ0 H)/\∀i m xs σc H,W i m xs σc H->xs.length<P4/\
  (((Itr 0 n).stop i H/\R xs H)\/((Itr 0 n).go i H/\∀x H',(Itr 0 n).yld i H x H'->g x σc H' λσ2 H2=>te σ2 H2 λy H3=>∃m',m'<m/\W (i+1) m' (xs++[y]) σ2 H3)):=by
 refine⟨λi m xs σ H=>m=n - i/\i<=n/\Pv i xs σ H,⟨n,by simp,GR _,h0⟩,?_⟩;rintro i m xs σ H ⟨rfl,hi,p⟩;refine⟨by rw[hl i xs σ H p];exact HI hi hz,?_⟩;by_cases hlt:i<n
 ·refine .inr ⟨hlt,λx H' y=>?_⟩
  obtain⟨e,y⟩:=y;subst e y;exact hs i xs σ _ hlt p
 ·have e:i=n:=by lia
  subst e;exact .inl ⟨GF _,hd xs σ H p⟩
theorem gL{vs:List V}(Pv:Nat->List V->St->Hp->Prop)(hz:vs.length<P4)(hl:∀i ys σ H,Pv i ys σ H->ys.length=i)(ht:∀i ys σ H,Pv i ys σ H->SqT K H a vs)(h0:Pv 0 [] σ0 H)
  (hs:∀i ys σ H x,vs[i]? = some x->Pv i ys σ H->g x σ H λσ2 H2=>te σ2 H2 λy H3=>Nx vs.length i (Pv (i+1) (ys++[y]) σ2 H3)) (hd:∀ys σ H,Pv vs.length ys σ H->R ys H) :
  ∃W:Nat->Nat->List V->St->Hp->Prop,(∃m,W 0 m [] σ0 H)/\∀i m xs σc H,W i m xs σc H->xs.length<P4/\
  (((Itt K a).stop i H/\R xs H)\/((Itt K a).go i H/\∀x H',(Itt K a).yld i H x H'->g x σc H' λσ2 H2=>te σ2 H2 λy H3=>∃m',m'<m/\W (i+1) m' (xs++[y]) σ2 H3)):=by
 refine⟨λi m xs σ H=>m=vs.length - i/\i<=vs.length/\Pv i xs σ H,⟨vs.length,by simp,GR _,h0⟩,?_⟩;rintro i m xs σ H ⟨rfl,hi,p⟩;have q:=ht i xs σ H p;refine⟨by rw[hl i xs σ H p];exact HI hi hz,?_⟩;by_cases hlt:i<vs.length
 ·refine .inr ⟨⟨vs,vs[i],q,by simp[hlt]⟩,λx H' y=>?_⟩
  obtain⟨e,y⟩:=y;subst e;exact hs i xs σ _ x (y vs q) p
 ·have e:i=vs.length:=by lia
  subst e;exact .inl ⟨⟨vs,q,GF _⟩,hd xs σ H p⟩
theorem aF{vs:List V}(Pv:Nat->List V->St->Hp->Prop)(hz:vs.length<P4)(hl:∀i ys σ H,Pv i ys σ H->ys.length=i)(ht:∀i ys σ H,Pv i ys σ H->SqL K H a vs)(h0:Pv 0 [] σ0 H)
  (hs:∀i ys σ H x,vs[i]? = some x->Pv i ys σ H->g x σ H λσ2 H2=>te σ2 H2 λy H3=>Nx vs.length i (Pv (i+1) (ys++[y]) σ2 H3)) (hd:∀ys σ H,Pv vs.length ys σ H->R ys H) :
  ∃W:Nat->Nat->List V->St->Hp->Prop,(∃m,W 0 m [] σ0 H)/\∀i m xs σc H,W i m xs σc H->xs.length<P4/\
  (((Itl K a).stop i H/\R xs H)\/((Itl K a).go i H/\∀x H',(Itl K a).yld i H x H'->g x σc H' λσ2 H2=>te σ2 H2 λy H3=>∃m',m'<m/\W (i+1) m' (xs++[y]) σ2 H3)):=by
 refine⟨λi m xs σ H=>m=vs.length - i/\i<=vs.length/\Pv i xs σ H,⟨vs.length,by simp,GR _,h0⟩,?_⟩;rintro i m xs σ H ⟨rfl,hi,p⟩;have q:=ht i xs σ H p;refine⟨by rw[hl i xs σ H p];exact HI hi hz,?_⟩;by_cases hlt:i<vs.length
 ·refine .inr ⟨⟨vs,vs[i],q,by simp[hlt]⟩,λx H' y=>?_⟩
  obtain⟨e,y⟩:=y;subst e;exact hs i xs σ _ x (y vs q) p
 ·have e:i=vs.length:=by lia
  subst e;exact .inl ⟨⟨vs,q,GF _⟩,hd xs σ H p⟩
end
noncomputable def dg(n b m:Nat):List Int:=(GH m).map λj=>((n / b ^ (m - 1 - j) % b:Nat):Int)
theorem BY(n b m:Nat):((GH m).map λj=>PR ((n / b ^ j % b:Nat):Int)).reverse=(dg n b m).map PR:=by
 unfold dg;rw[<-LK,<-PySem.W.krv_range,Hv,Hv];rfl
section
variable{X:Cx}{N tgs frs:List Str}{ix:List Nat}{scope:Scope}{cl:List (Str×Addr)}
theorem zI{y:Str}{iy:Nat}{te:TE}(hN:X.N.Nodup)(hy:X.N[iy]? = some y)(hx:Loc X.env.scope y)(c:CompOk X N tgs frs ix scope cl)(hc:X.calm=true)(hi:PI X tg iter wi)
  (hg:∀fp C s H,PG (av X N scope cl fp C s H) tg g) (he:∀fp C s H,PE (av X N scope cl fp C s H) elt te)
  (hs:∀x,Qa iter X.env x=pure x:=by intro _;rfl)
  (hsw:QL (.ListComp elt [⟨tg,iter,[],0⟩] scope pos) (some (.Name y py)) spos.line X.env=pure true:=by rfl)
  (hf:X.fn y=true\/X.env.scope.names.lookup y=some .local:=by first|exact .inl rfl|exact .inr rfl|assumption) :
  PS X (.Assign [.Name y py] (.ListComp elt [⟨tg,iter,[],0⟩] scope pos) spos) (sr (oM wi g te tgs ix) (gB iy)):=by
 intro pins s σ H Dn I h;rw[exec_Assign_Name_used _ _ _ _ hsw];refine P2 (Qr (P2 ?_));show wpAny _ X.A (do let _ <-comprehension (.ListComp elt [⟨tg,iter,[],0⟩] scope pos) scope X.env _ (newList []) false (eval iter X.env) (some (assign (.Name y py) X.env))) _ _ s
 refine P2 (P8 (Qi (use:=some (assign (.Name y py) X.env)) (Q:=λ_ s'=>SP X pins Dn .next s') rfl hs c.clos c.kind c.names (thn (hi pins s σ H _ I h) λxv s1 h1=>thn h1 λitv s2 h2=>?_)) (λ_ s' hq=>P3 (P3 hq)) λ_ _ e=>e);obtain⟨it,fp,tn,J,H2,rfl,I2,T,st2,f2,W,⟨m0,w0⟩,turn⟩:=h2;have hfl:∀b∈fp,b<s2.heap.objs.size:=λb hb=>by
  obtain⟨o,e,_⟩:=T.obj _ _ st2 b hb;exact GK e
 have hcn:∀x a,cl.lookup x=some a->X.env.cells.lookup x=some a:=c.cls.get
 refine P5 (Qz c.cell (by intro y hy;simp at hy) (λh1 hns1 hsb1=>?_) c.kind);dsimp only at hns1 hsb1 ⊢;generalize hH2:s2.heap.push { cls:=.type "list",dict:=none,data:=.seq ([]:List Value).toArray }=G2 at hns1 hsb1 ⊢;have hC:G2.objs.size=s2.heap.objs.size+1:=by rw[<-hH2,IR]
 generalize hCC:G2.objs.size=C at *;generalize hDD:s2.heap.objs.size=D at *;have hDC:D≠C:=by lia
 have hCle:D<=C:=by lia
 have old:∀b o,s2.heap.get? b=some o->h1.get? b=some o:=λb o e=>by
  have lt:b<s2.heap.objs.size:=GK e;exact hsb1.extBut b o (GV (G0 (hDD▸lt) hCle)) (GD _ (hH2▸GD _ e))
 have hacc:h1.get? D=some (aB [] 0):=hsb1.extBut _ _ hDC (GD _ (hH2▸(hDD▸GT _ rfl)));have cellD:∀x a,X.env.cells.lookup x=some a->a<D:=λx a e=>by
  obtain⟨v,q⟩:=I2.cell x a e;exact hDD▸q.lt
 have fpc:∀{H':Hp}{us:List Value}{k:Nat},(∀b∈fp,H' b=none)->∀b∈fp,oD (av X N scope cl fp C s2 H2) [(D,aB us k)] H' b:=λ{H' us k} hn b hb=>by
  have lb:=hfl b hb;refine⟨hn b hb,?_,λz=>?_,.inl hb,λx a e z=>?_,λp hp=>?_⟩
  ·exact GV (G0 lb hCle)
  ·rcases GW.mp (I2.stkSub b z)with e|e
   ·exact(f2 b hb).2.1 e
   ·exact(f2 b hb).2.2.1 e
  ·exact(f2 b hb).2.2.2.2.1 x a (hcn x a e) z
  ·have:p=(D,aB us k):=by simpa [av]using hp
   rw[this];exact Ho lb
 have D_fs:D∉(av X N scope cl fp C s2 H2).fs:=λz=>by
  rcases GW.mp (I2.stkSub D z)with e|e
  ·exact absurd I2.lt (by rw[<-e,hDD];exact Hw _)
  ·exact I2.nofs (HR hDD) e
 have I3:=jg (tk:=s2.toks+([]:List (Str×Value)).length) (pins':=[(D,aB [] 0)]) c I2 f2 (λb hb=>hDD▸hfl b hb) (hDD▸hCle:s2.heap.objs.size<=C) hns1 old (λp hp=>by
  have e:p=(D,aB [] 0):=by simpa using hp
  subst e;exact⟨hacc,HR hDD,hDC,λv z=>by cases z⟩)
 have tn3:tn 0 h1:=T.keep _ _ _ st2 λb _ o e=>old b o e
 have loop:codeAny (model X.prog X.w) X.A (.compLoop (.ListComp elt [⟨tg,iter,[],0⟩] scope pos) 0 (.ref it) (.ref D) (compEnvC scope cl C X.env))
   (compPost (model X.prog X.w) X.A X.xe (some (assign (.Name y py) X.env)) (λ_ s'=>SP X pins Dn .next s') (.ref D) C) { s2 with heap:=h1,toks:=s2.toks+([]:List (Str×Value)).length }:=by
  refine fc (λn s'=>∃i xs us k σc H',Inv (av X N scope cl fp C s2 H2) [(D,aB us k)] σc H' s'/\tn i s'.heap/\(∀b∈fp,H' b=none)/\Vals xs us/\W i n xs σc H') ?_ m0
   ⟨0,[],[],0,_,H2,I3,tn3,λb hb=>(f2 b hb).1,.nil,w0⟩
  rintro n s4 ⟨i,xs,us,k,σ4,H4,I4,tn4,fr4,rv,w4⟩;obtain⟨hsz,tt⟩:=turn i n xs σ4 H4 w4;rcases tt with⟨stop,fin⟩|⟨go,step⟩
  ·refine thn (T.done (av X N scope cl fp C s2 H2) rfl rfl rfl hc i _ s4 σ4 H4 _ I4 (fpc fr4) tn4 stop) λr s5 ⟨hr,I5⟩=>?_
   subst hr;obtain⟨m,ns,_⟩:=I5.loc;have J1:Inv X pins σ H4 s5:=I2.call' I5.os I5.base I5.hok I5.bare λb hb=>⟨(f2 b hb).2.2.2.1,(f2 b hb).2.1,(f2 b hb).2.2.2.2.1,(f2 b hb).2.2.2.2.2⟩
   have big:∀a,D<=a->a≠X.env.locals/\(a∈X.ex\/X.s₀.heap.objs.size<=a)/\(∀x y,X.env.cells.lookup x=some y->y≠a)/\∀p∈X.pn++pins,p.1≠a:=λa ha=>by
    obtain⟨q0,q1,q2,q3,q4,q5⟩:=I2.fpOk (b:=a) (H':=λ_=>none) (hDD▸ha) rfl;exact⟨q1,q3,q4,q5⟩
   have nfs:∀a,D<=a->a∉X.fs:=λa ha=>I2.nofs (hDD▸ha)
   obtain⟨b1,b2,b3,b4⟩:=big C hCle;obtain⟨p1,p2,p3,p4,p5⟩:=I5.pin (D,aB us k) (by simp);obtain⟨d1,d2,d3,d4⟩:=big D (GF _);have J3:Inv X pins σ (upd H4 D (.lst xs)) s5:=J1.adopt p2 d1 d2 d3 d4 ⟨HK hsz,us,k,rv,p1⟩;obtain⟨oC,esC,epC,hoC,hdC,rC⟩:=id ns;have hHC:(upd H4 D (.lst xs)) C=none:=by rw[ai (Hx hDC)];exact I5.free
   have J4:Inv X (pins++[(C,oC)]) σ (upd H4 D (.lst xs)) s5:=J3.pins_of λp hp=>by
    rcases G9.mp hp with z|z
    ·exact J3.pin p (GG _ z)
    ·have e:p=(C,oC):=by simpa using z
     subst e;exact⟨hoC,hHC,b1,nfs C hCle,λv z=>by rw[hdC]at z;cases z⟩
   show wpAny _ X.A (assign (.Name y py) X.env (.ref D)) _ _ s5
   refine wpAny_assign_Name (dW J4 hN hy hx (v:=.ref D) rfl (λs6 J5=>?_) hf);have hC6:=(J5.pin (C,oC) (GG _ (GG _ (by simp)))).1;refine⟨m,⟨oC,esC,epC,hC6,hdC,rC⟩,λh' sb=>?_⟩;have J6:Inv X pins (σ.set iy (some (.ref D))) (upd H4 D (.lst xs)) s6:=J5.unpinned;have J7:Inv X pins (σ.set iy (some (.ref D))) (upd H4 D (.lst xs)) { s6 with heap:=h' }:=J6.turned (t':=s6.toks) (λb o hb e=>sb.extBut b o hb e) hHC b1 b2 b3 b4;exact⟨_,_,J7,fin D p2⟩
  ·refine thn (T.item (av X N scope cl fp C s2 H2) rfl rfl rfl hc i _ s4 σ4 H4 _ I4 (fpc fr4) tn4 go) λr s5 ⟨u,hr,h5⟩=>?_
   subst hr;refine thn h5 λ_ s6 ⟨x,H6,I6,r6,y6,tn6,fr6⟩=>?_
   have I6':=I6.pinned (fpc fr6) (T.obj _ _ tn6);refine thn (hg fp C s2 H2 _ s6 σ4 H6 x u _ I6' r6 (step x H6 y6)) λ_ s7 ⟨σ7,H7,I7,q7⟩=>?_
   refine thn (he fp C s2 H2 _ s7 σ7 H7 _ I7 q7) λyv s8 ⟨y,H8,I8,r8,m',hm,w8⟩=>?_
   obtain⟨p1,p2,p3,p4,p5⟩:=I8.pin (D,aB us k) (by simp[av]);have hsz':us.toArray.size<=P4:=by simp;rw[<-rv.length];exact HK hsz
   refine Ql (hsz:=hsz') ⟨k,p1⟩ λh' pl sb=>?_
   have tn8:tn (i+1) s8.heap:=T.keep _ _ _ tn6 λb hb o e=>(I8.pin (b,o) (GG _ (GG _ (aM hb e)))).1
   have fr8:∀b∈fp,H8 b=none:=λb hb=>by
    obtain⟨o,e,d⟩:=T.obj _ _ tn6 b hb;exact(I8.pin (b,o) (GG _ (GG _ (aM hb e)))).2.1
   have I9:Inv (av X N scope cl fp C s2 H2) [] σ7 H8 s8:=I8.pins_of λp hp=>nomatch hp
   have I10:Inv (av X N scope cl fp C s2 H2) [] σ7 H8 { s8 with heap:=h' }:=I9.turned (t':=s8.toks) (it:=D) (λb o hb e=>sb.extBut b o hb e) p2 p3 (.inr (HR hDD))
    (λx a e=>GV (cellD x a (hcn x a e))) (λp hp=>by simp[av]at hp)
   obtain⟨k',pl⟩:=pl;have eu:us.toArray.push yv=(us++[yv]).toArray:=by simp
   rw[eu]at pl;have I11:Inv (av X N scope cl fp C s2 H2) [(D,aB (us++[yv]) k')] σ7 H8 { s8 with heap:=h' }:=I10.pins_of λp hp=>by
    have e:p=(D,aB (us++[yv]) k'):=by simpa using hp
    subst e;exact⟨pl,p2,p3,p4,λv z=>by cases z⟩
   exact⟨m',hm,i+1,xs++[y],us++[yv],k',σ7,H8,I11,T.keep _ _ _ tn8 λb hb o e=>sb.extBut b o (GV (hfl b hb)) e,fr8,rv.append (.cons r8 .nil),w8⟩
 exact Qq loop (T.self _ 0 _ _ _ tn3 loop)
end
section
variable{X:Cx}{N tgs frs:List Str}{ix:List Nat}{scope:Scope}{cl:List (Str×Addr)}
theorem io{y:Str}{te:TE}(hN:X.N.Nodup)(hy:X.N[i]? = some y)(hx:Loc X.env.scope y)(c:CompOk X N tgs frs ix scope cl)(hc:X.calm=true)(hi:QI X tg iter wi)
  (hg:∀fp C s H,QG (av X N scope cl fp C s H) tg g) (he:∀fp C s H,QE (av X N scope cl fp C s H) elt te)
  (hs:∀x,Qa iter X.env x=pure x:=by intro _;rfl)
  (hsw:QL (.ListComp elt [⟨tg,iter,[],0⟩] scope pos) (some (.Name y py)) spos.line X.env=pure true:=by rfl)
  (hf:X.fn y=true\/X.env.scope.names.lookup y=some .local:=by first|exact .inl rfl|exact .inr rfl|assumption) :
  QS X (.Assign [.Name y py] (.ListComp elt [⟨tg,iter,[],0⟩] scope pos) spos) (sr (oM wi g te tgs ix) (gB i)):=
 ⟨zI hN hy hx c hc hi.out (λfp C s H=>(hg fp C s H).out) (λfp C s H=>(he fp C s H).out) hs hsw hf⟩
end
section
variable{prog:Program}{w:World}{A:Around}{E:Value->Shared->Prop}{s:Shared}
end
section
variable{X:Cx}{pos:Pos}{u:TGs}
end
noncomputable def fQ(bs:List Nat):Nat:=bs.foldl JG 1
theorem p8(m n:Nat):m / Jg m n*n=JG m n:=by
 rw[JG,Nat.div_mul_right_comm (NH m n)]
theorem p9:∀(bs:List Nat) (a m:Nat),a∣m->(∀b∈bs,b∣m)->bs.foldl JG a∣m
 | [],a,m,h,_=>h
 | b::bs,a,m,h,hb=>p9 bs _ m (Nat.lcm_dvd h (hb b (by simp))) λc hc=>hb c (by simp[hc])
theorem qa:∀(bs:List Nat) (a:Nat),a∣bs.foldl JG a/\∀b∈bs,b∣bs.foldl JG a
 | [],a=>⟨Nat.dvd_refl a,λ_ h=>nomatch h⟩
 | b::bs,a=>by
  obtain⟨h1,h2⟩:=qa bs (JG a b);refine⟨Ob (Nat.dvd_lcm_left a b) h1,λc hc=>?_⟩;rcases GW.mp hc with rfl|hc
  ·exact Ob (Nat.dvd_lcm_right a c) h1
  ·exact h2 c hc
theorem wN{bs:List Nat}(h:∀b∈bs,b∣m):fQ bs∣m:=p9 bs 1 m (Nat.one_dvd m) h
theorem qb{bs:List Nat}(h:b∈bs):b∣fQ bs:=(qa bs 1).2 b h
theorem qc{bs:List Nat}(h:∀b∈bs,1<=b/\b<=60):0<fQ bs:=by
 have:∀(bs:List Nat) (a:Nat),0<a->(∀b∈bs,1<=b/\b<=60)->0<bs.foldl JG a:=by
  intro bs
  induction bs with
  | nil=>intro a ha _;exact ha
  | cons b bs ih=>intro a ha hb;exact ih _ (Nat.lcm_pos ha (by have:=(hb b (by simp)).1;lia)) λc hc=>hb c (by simp[hc])
 exact this bs 1 (by decide) h
theorem m9(bs:List Nat)(i:Nat)(b:Nat)(h:bs[i]? = some b):fQ (bs.take (i+1))=JG (fQ (bs.take i)) b:=by
 have et:bs.take (i+1)=bs.take i++[b]:=by rw[GS,h];rfl
 unfold fQ;rw[et,List.foldl_append];rfl
noncomputable def A1:Nat:=2 ^ 5*(3 ^ 3*(5 ^ 2*(7 ^ 2*(11 ^ 1*(13 ^ 1*(17 ^ 1*(19 ^ 1*(23 ^ 1*(29 ^ 1*(31 ^ 1*(37 ^ 1*(41 ^ 1*(43 ^ 1*(47 ^ 1*(53 ^ 1*(59 ^ 1*1))))))))))))))))
theorem tN:∀b,b<=60->1<=b->b∣A1:=by
 have key:∀b:_root_.Fin 61,1<=b.val->A1 % b.val=0:=by decide +kernel
 intro b h1 h2;exact Nat.dvd_of_mod_eq_zero (key ⟨b,by lia⟩ h2)
theorem BZ{bs:List Nat}(hb:∀b∈bs,1<=b/\b<=60):fQ bs∣A1:=wN λb h=>tN b (hb b h).2 (hb b h).1
theorem qd{g l:Nat}(h:0<l):Jg l (g % l)=Jg g l:=by
 rw[OS g l,Nat.gcd_rec l g,OS]
theorem Stp.free{H:Hp}(s:Stp p H H1)(h:H1 q=none):H q=none:=by
 cases e:H q with
 | none=>rfl
 | some o=>
  have hne:q≠p:=s.tape.ne h;have:=s.keep q o e hne;rw[h]at this;cases this
def PartsT(H:Hp)(ps:List Addr)(tb:List (Int×Nat)):Prop:=ps.length=tb.length/\∀(i:Nat) (p:Addr) (z:Int×Nat),ps[i]? = some p->tb[i]? = some z->H p=some (.tup [.int z.1,.int z.2])
theorem PartsT.same{H:Hp}{tb:List (Int×Nat)}(h:PartsT H ps tb)(e:Same H H1):PartsT H1 ps tb:=⟨h.1,λi p z a b=>e _ _ (h.2 i p z a b)⟩
theorem aG{α:Type}{xs:List α}{x:α}{y:α}(h:(xs++[x])[i]? = some y):(i<xs.length/\xs[i]? = some y)\/(i=xs.length/\y=x):=by
 rcases Ij i xs.length with l|l|l
 ·rw[G6 l]at h;exact .inl ⟨l,h⟩
 ·subst l;simp at h;exact .inr ⟨rfl,h.symm⟩
 ·rw[JH (by simp;lia)]at h;cases h
theorem PartsT.snoc{H:Hp}{tb:List (Int×Nat)}{z:Int×Nat}(h:PartsT H ps tb)(e:H p=some (.tup [.int z.1,.int z.2])):PartsT H (ps++[p]) (tb++[z]):=by
 refine⟨by simp[h.1],λi q y a b=>?_⟩;rcases aG a with⟨l,a⟩|⟨l,a⟩
 ·rcases aG b with⟨_,b⟩|⟨l',b⟩
  ·exact h.2 i q y a b
  ·have:=h.1;lia
 ·rcases aG b with⟨l',b⟩|⟨_,b⟩
  ·have:=h.1;lia
  ·rw[a,b];exact e
section
variable{X:Cx}{pins:List (Addr×Obj)}{σ:St}{H:Hp}{s:Shared}{h':Heap}
theorem Inv.turnedAll(I:Inv X pins σ H s)(k:∀b o,b∉ch->s.heap.get? b=some o->h'.get? b=some o)(hf:∀b∈ch,oD X pins H b):Inv X pins σ H { s with heap:=h',toks:=t' }:=by
 have nit:∀b u,H b=some u->b∉ch:=λb u e z=>by rw[(hf b z).1]at e;cases e
 refine I.step (g':=s.gens) (d':=s.drawn) (ch:=ch) (λb hb=>?_) (λb o _ _ hc e _=>k b o hc e) (λb o _ _ hc e _=>⟨o.slots,k b o hc e⟩) (λ_ _ _ _ n=>n)
  (λb o hc e=>⟨o,k b o hc e⟩) (λ_ _ e=>e) (λ_ _ _ e=>e) (λb ps e=>⟨#[],by rw[e];simp⟩) (λm hm=>?_) (λb u e=>?_) I.bare
 ·obtain⟨_,f1,_,f3,f4,f5⟩:=hf b hb
  exact⟨f3,f1,f4,f5⟩
 ·obtain⟨o,es,ep,q,r⟩:=hm
  exact⟨o,es,ep,k _ o (λz=>(hf _ z).2.1 rfl) q,r⟩
 ·refine(I.hok b u e).stay (λc v hc q=>k c v ?_ q) (λ_ q=>q) λ_ _ q=>q
  rcases hc with z|z
  ·rw[z];exact nit b u e
  ·exact nit c _ z
end
section
variable{X:Cx}
def B0(K:GC):RC:=λxs H Q=>∃(p:Addr) (ns:List Int),xs=[.ref p]/\(SqL K H p (ns.map PR)\/SqT K H p (ns.map PR))/\ns≠[]/\∀M,M∈ns->(∀a∈ns,M<=a)->Q (.int M) H
def B3(K:GC):RC:=λxs H Q=>∃(p:Addr) (ns:List Int),xs=[.ref p]/\(SqL K H p (ns.map PR)\/SqT K H p (ns.map PR))/\ns≠[]/\∀M,M∈ns->(∀a∈ns,a<=M)->Q (.int M) H
theorem fO{zs:Array (Int×Tok)}{ns:List Int}(hn:zs.toList.map (·.1)=ns)(i:Nat):numAt zs i=ns.getD i 0:=by
 subst hn;unfold numAt;rw[GB,GE,JE]
theorem qe{zs:Array (Int×Tok)}{ns:List Int}(hn:zs.toList.map (·.1)=ns)(h0:ns≠[]):let M:=numAt zs (argBest (λi j=>decide (numAt zs i<numAt zs j)) (zs.size - 1));M∈ns/\∀a∈ns,M<=a:=by
 have hz:ns.length=zs.size:=by rw[<-hn];simp
 have hp:0<ns.length:=Iy.mpr h0;obtain⟨b1,b2⟩:=argBest_lt (numAt zs) (zs.size - 1);refine⟨?_,λa ha=>?_⟩
 ·rw[fO hn,GB,Gz ⋯]
  exact GU _
 ·obtain⟨j,hj,rfl⟩:=JN.mp ha
  have:=b2 j ⋯;rw[fO hn j,GB,Gz hj]at this;exact this
theorem qf{zs:Array (Int×Tok)}{ns:List Int}(hn:zs.toList.map (·.1)=ns)(h0:ns≠[]):let M:=numAt zs (argBest (λi j=>decide (numAt zs i > numAt zs j)) (zs.size - 1));M∈ns/\∀a∈ns,a<=M:=by
 have hz:ns.length=zs.size:=by rw[<-hn];simp
 have hp:0<ns.length:=Iy.mpr h0;obtain⟨b1,b2⟩:=argBest_gt (numAt zs) (zs.size - 1);refine⟨?_,λa ha=>?_⟩
 ·rw[fO hn,GB,Gz ⋯]
  exact GU _
 ·obtain⟨j,hj,rfl⟩:=JN.mp ha
  have:=b2 j ⋯;rw[fO hn j,GB,Gz hj]at this;exact this
theorem fP{ns:List Int}(rv:Vals (ns.map PR) its):∃zs:Array (Int×Tok),its.toArray=QR zs/\zs.toList.map (·.1)=ns:=by
 have hi:P9 its ns:=bF rv;obtain⟨zs,hx⟩:=hi.allInts.items;have hn:numsOf its.toArray.toList=ns:=by rw[show its.toArray.toList=its from rfl,hi.numsOf]
 rw[hx,nums_intItems]at hn;exact⟨zs,hx,hn⟩
theorem na {t:Addr}(ht:h.IsTuple t items):∀b∈[h.objs.size,t],b<(h.push { cls:=.type "tuple_iterator",data:=.fields #[.ref t,.int 0 0] }).objs.size:=by
 intro b hb;rw[IR];obtain⟨_,e,_⟩:=ht;simp only[GW,Hy,or_false]at hb;rcases hb with rfl|rfl
 ·exact LL _
 ·exact IJ (GK e)
theorem qg{g:Heap}{o:Obj}(hk:∀b u,b∉[h.objs.size]->(h.push o).get? b=some u->g.get? b=some u):∀b u,h.get? b=some u->g.get? b=some u:=λb u e=>by
 refine hk b u ?_ (GD _ e);intro hm;have e2:b=h.objs.size:=by simpa using hm
 exact absurd (e2▸GK e) (Hw _)
theorem oT {K:GC}(hc:X.calm=true) (hK:X.K=K:=by rfl):QC X (.builtin "min") (B0 K):=by
 subst hK;refine⟨λpins s σ H xs us Q I r h=>?_⟩;obtain⟨p,ns,rfl,hq,h0,q⟩:=h;obtain⟨u,rfl,ru⟩:=gD r;cases ru;rcases hq with hq|hq
 ·obtain⟨its,rv,hp,hz⟩:=I.list hq
  obtain⟨zs,hx,hn⟩:=fP rv;have hl:=hp.isList;rw[hx]at hl;obtain⟨m1,m2⟩:=qe hn h0;refine min_intList (I.ok.hd hc) hl ?_ λv h' tk hv hk=>?_
  ·have:zs.toList.length=ns.length:=by rw[<-hn];simp
   have:=Iy.mpr h0;simp at *;lia
  ·obtain⟨t,rfl⟩:=intItems_at hv
   exact⟨.int _,H,I.kept hk,⟨t,rfl⟩,q _ m1 m2⟩
 ·obtain⟨its,rv,hp,hz⟩:=I.tuple hq
  obtain⟨zs,hx,hn⟩:=fP rv;have ht:s.heap.IsTuple p (QR zs):=by rw[<-hx];exact hp
  have hlt:p<s.heap.objs.size:=by obtain⟨_,e,_⟩:=ht;exact GK e
  obtain⟨m1,m2⟩:=qe hn h0;refine call_min_walk (wpAny_pyIter_tuple ht ?_);refine⟨_,_,_,_,_,_,_,rfl,O8 (A:=X.A.in1) (I.ok.hd hc) _ p (GV hlt) (QR zs),⟨⟨_,GT _ rfl,rfl,rfl⟩,ht.push _⟩,na ht,?_,CmpOf.ints_lt (numAt zs) (λ_ _=>intItems_at),λv h' tk hv hk=>?_⟩
  ·have:zs.toList.length=ns.length:=by rw[<-hn];simp
   have:=Iy.mpr h0;simp[QR]at *;lia
  ·have hv':(QR zs)[argBest (λi j=>decide (numAt zs i<numAt zs j)) (zs.size - 1)]? = some v:=by simpa [QR]using hv
   obtain⟨t,rfl⟩:=intItems_at hv';exact⟨.int _,H,I.kept (qg hk),⟨t,rfl⟩,q _ m1 m2⟩
theorem tO {K:GC}(hc:X.calm=true) (hK:X.K=K:=by rfl):QC X (.builtin "max") (B3 K):=by
 subst hK;refine⟨λpins s σ H xs us Q I r h=>?_⟩;obtain⟨p,ns,rfl,hq,h0,q⟩:=h;obtain⟨u,rfl,ru⟩:=gD r;cases ru;rcases hq with hq|hq
 ·obtain⟨its,rv,hp,hz⟩:=I.list hq
  obtain⟨zs,hx,hn⟩:=fP rv;have hl:=hp.isList;rw[hx]at hl;obtain⟨m1,m2⟩:=qf hn h0;refine max_intList (I.ok.hd hc) hl ?_ λv h' tk hv hk=>?_
  ·have:zs.toList.length=ns.length:=by rw[<-hn];simp
   have:=Iy.mpr h0;simp at *;lia
  ·obtain⟨t,rfl⟩:=intItems_at hv
   exact⟨.int _,H,I.kept hk,⟨t,rfl⟩,q _ m1 m2⟩
 ·obtain⟨its,rv,hp,hz⟩:=I.tuple hq
  obtain⟨zs,hx,hn⟩:=fP rv;have ht:s.heap.IsTuple p (QR zs):=by rw[<-hx];exact hp
  have hlt:p<s.heap.objs.size:=by obtain⟨_,e,_⟩:=ht;exact GK e
  obtain⟨m1,m2⟩:=qf hn h0;refine call_max_walk (wpAny_pyIter_tuple ht ?_);refine⟨_,_,_,_,_,_,_,rfl,O8 (A:=X.A.in1) (I.ok.hd hc) _ p (GV hlt) (QR zs),⟨⟨_,GT _ rfl,rfl,rfl⟩,ht.push _⟩,na ht,?_,Oc (numAt zs) (λ_ _=>intItems_at),λv h' tk hv hk=>?_⟩
  ·have:zs.toList.length=ns.length:=by rw[<-hn];simp
   have:=Iy.mpr h0;simp[QR]at *;lia
  ·have hv':(QR zs)[argBest (λi j=>decide (numAt zs i > numAt zs j)) (zs.size - 1)]? = some v:=by simpa [QR]using hv
   obtain⟨t,rfl⟩:=intItems_at hv';exact⟨.int _,H,I.kept (qg hk),⟨t,rfl⟩,q _ m1 m2⟩
end
section
variable{K:GC}{H:Hp}{Q:VK}
theorem oU{ns:List Int}(hs:SqL K H p (ns.map PR)\/SqT K H p (ns.map PR))(h0:ns≠[])(h:∀M,M∈ns->(∀a∈ns,M<=a)->Q (.int M) H):B0 K [.ref p] H Q:=⟨p,ns,rfl,hs,h0,h⟩
theorem tP{ns:List Int}(hs:SqL K H p (ns.map PR)\/SqT K H p (ns.map PR))(h0:ns≠[])(h:∀M,M∈ns->(∀a∈ns,a<=M)->Q (.int M) H):B3 K [.ref p] H Q:=⟨p,ns,rfl,hs,h0,h⟩
end
section
variable{prog:Program}{w:World}{A:Around}{E:Value->Shared->Prop}{s:Shared}
end
def Ev(K:GC)(a:Addr):It:=
 ⟨λi H=>∃xs x,SqL K H a xs/\xs[i]? = some x,λi H v H'=>∃p x,v=.ref p/\H p=none/\H'=upd H p (.tup [.int i,x])/\∀xs,SqL K H a xs->xs[i]? = some x,λi H=>∃xs,SqL K H a xs/\xs.length=i⟩
theorem jE{b:Addr}{o u:Obj}{x y:String}(e1:h.get? a=some o)(c1:o.cls=.type x)(e2:h.get? b=some u)(c2:u.cls=.type y)(hn:x≠y):a≠b:=λz=>by
 subst z;rw[e1]at e2;cases e2;rw[c1]at c2;exact hn (by injection c2)
theorem Inv.pair{H:Hp}{s:Shared}{g:Heap}{v:Value}{x:V}(I:Inv X pins σ H s)(k:∀b o,b∉ch->s.heap.get? b=some o->g.get? b=some o)(hf:∀b∈ch,oD X pins H b)
  (hg:g.get? s.heap.objs.size=some { cls:=.type "tuple",data:=.seq #[u,v] }) (rx:RelV x u) (ry:RelV y v):Inv X pins σ (upd H s.heap.objs.size (.tup [x,y])) { s with heap:=g,toks:=tk }/\H s.heap.objs.size=none:=by
 have I1:Inv X pins σ H { s with heap:=g,toks:=tk }:=I.turnedAll k hf;have hn:H s.heap.objs.size=none:=I.hok.fresh (GF _);obtain⟨_,f1,f2,f3,f4,f5⟩:=I.fpOk (GF _) hn;refine⟨I1.adopt hn f1 f3 f4 f5 ?_,hn⟩;exact⟨by show 2<=P4;decide,[u,v],.cons rx (.cons ry .nil),⟨_,hg,rfl,_,rfl⟩⟩
theorem rp{w:World}{K:GC}{elts:List Expr}{k:Nat}(a e it:Addr)(hei:e≠it):Turn P w K (.Tuple elts k pos) (Ev K a) [e,it] e (λi h=>(∃old,IsEnum h e it i old)/\h.IsListIter it a i) where
 mem:=by simp
 obj:=λi h st b hb=>by
  obtain⟨⟨old,q⟩,o,q1,q2,q3⟩:=st;simp only[GW,Hy,or_false]at hb;rcases hb with rfl|rfl
  ·exact⟨_,q,λv z=>by cases z⟩
  ·exact⟨o,q1,λv z=>by rw[q3]at z;cases z⟩
 keep:=λi h h' st kk=>by
  obtain⟨⟨old,q⟩,o,q1,q2⟩:=st;exact⟨⟨old,kk e (by simp) _ q⟩,o,kk it (by simp) o q1,q2⟩
 item:=by
  intro X hP hw hK hc i pins s σ H E I hf st hg;subst hP hw hK;obtain⟨xs,x,hq,hx⟩:=hg;obtain⟨its,rv,p,hz⟩:=I.list hq;obtain⟨u,hu,ru⟩:=rv.get hx;have hl:=rv.length;have hil:i<its.toArray.size:=by have:=(GQ.mp hu).1;simpa using this
  obtain⟨⟨old,q⟩,q2⟩:=st;have hne:a≠it:=by
   obtain⟨o1,g1,g2,_⟩:=p.isList;obtain⟨o2,g3,g4,_⟩:=q2;exact jE g1 g2 g3 g4 (by decide)
  have hea:e≠a:=by
   obtain⟨o1,g1,g2,_⟩:=p.isList;exact jE q rfl g1 g2 (by decide)
  refine wpAny_pyNext_enum_itemD (Ph (A:=X.A.in1) (I.ok.hd hc) it a hne its.toArray) q ⟨q2,p.isList⟩ hil hei (by simp[hei,hea]) λy h' tk hP ho hs' hT hsz hk=>⟨_,rfl,wpAny_letOwnedTupleGo_enum ho λg he' sb=>?_⟩
  have ey:y=u:=by
   have h1:its.toArray[i]? = some u:=by simpa using hu
   exact G8 (hP.symm.trans h1)
  subst ey;have hTe:s.heap.objs.size≠e:=Ho (GK q);have lt2:it<s.heap.objs.size:=by obtain⟨o2,g3,_⟩:=q2;exact GK g3
  obtain⟨I2,hn⟩:=I.pair (g:=g) (tk:=tk+1) (ch:=[e,it]) (x:=.int i) (y:=x) (λb o hb r=>(sb.2 b (λz=>hb (by simp[z]))).trans (hk b o (λz=>hb (by simp[z])) (λz=>hb (by simp[z])) r)) hf ((sb.2 _ hTe).trans hT) ⟨tk,rfl⟩ ru;refine⟨.ref s.heap.objs.size,_,I2,rfl,⟨_,x,rfl,hn,rfl,λys hy=>by rw[I.list_inj hy hq];exact hx⟩,⟨⟨_,by simpa using he'⟩,hs'.1.at λo r=>(sb.2 it hei.symm).trans r⟩,λb hb=>?_⟩;simp only[GW,Hy,or_false]at hb;rcases hb with rfl|rfl
  ·rw[ai hTe.symm];exact(hf _ (by simp)).1
  ·rw[ai (GV lt2)];exact(hf _ (by simp)).1
 done:=by
  intro X hP hw hK hc i pins s σ H E I hf st hg;subst hP hw hK;obtain⟨xs,hq,hx⟩:=hg;obtain⟨its,rv,p,hz⟩:=I.list hq;obtain⟨⟨old,q⟩,q2⟩:=st;have hl:=rv.length;have hne:a≠it:=by
   obtain⟨o1,g1,g2,_⟩:=p.isList;obtain⟨o2,g3,g4,_⟩:=q2;exact jE g1 g2 g3 g4 (by decide)
  have hi:its.toArray.size=i:=by simp;lia
  subst hi;refine wpAny_pyNext_enum_endD (Ph (A:=X.A.in1) (I.ok.hd hc) it a hne its.toArray) q ⟨q2,p.isList⟩ λh' eb=>⟨rfl,I.turnedAll (t':=s.toks) (ch:=[it]) (λb o hb r=>eb b o (λz=>hb (by simp[z])) r) λb hb=>hf b (by simp at hb;simp[hb])⟩
 self:=λ_ _ _ _ _ st h=>by
  obtain⟨⟨old,q⟩,_⟩:=st;exact wpAny_pyIter_enum q h
def Itz(K:GC)(a b:Addr):It:=
 ⟨λi H=>∃xs ys x y,SqL K H a xs/\SqL K H b ys/\xs[i]? = some x/\ys[i]? = some y,λi H v H'=>∃p x y,v=.ref p/\H p=none/\H'=upd H p (.tup [x,y])/\(∀xs,SqL K H a xs->xs[i]? = some x)/\∀ys,SqL K H b ys->ys[i]? = some y,λi H=>∃xs ys,SqL K H a xs/\SqL K H b ys/\(xs.length<=i\/ys.length<=i)⟩
theorem wO{w:World}{K:GC}{elts:List Expr}{k:Nat}(a b z TI TO i1 i2:Addr)(D:ZipApart z TI TO i1 i2 a b):
  Turn P w K (.Tuple elts k pos) (Itz K a b) [z,TI,TO,i1,i2] z (λi h=>IsZip h z TI TO .none/\IsPair h TI (.ref i1) (.ref i2)/\(∃u v,IsPair h TO u v)/\h.IsListIter i1 a i/\h.IsListIter i2 b i) where
 mem:=by simp
 obj:=λi h st c hb=>by
  obtain⟨q1,q2,⟨u,v,q3⟩,⟨o4,q4,_,d4⟩,⟨o5,q5,_,d5⟩⟩:=st;simp only[GW,Hy,or_false]at hb;rcases hb with rfl|rfl|rfl|rfl|rfl
  ·exact⟨_,q1,λv z=>by cases z⟩
  ·exact⟨_,q2,λv z=>by cases z⟩
  ·exact⟨_,q3,λv z=>by cases z⟩
  ·exact⟨o4,q4,λv z=>by rw[d4]at z;cases z⟩
  ·exact⟨o5,q5,λv z=>by rw[d5]at z;cases z⟩
 keep:=λi h h' st kk=>by
  obtain⟨q1,q2,⟨u,v,q3⟩,⟨o4,q4,r4⟩,⟨o5,q5,r5⟩⟩:=st;exact⟨kk z (by simp) _ q1,kk TI (by simp) _ q2,⟨u,v,kk TO (by simp) _ q3⟩,⟨o4,kk i1 (by simp) _ q4,r4⟩,⟨o5,kk i2 (by simp) _ q5,r5⟩⟩
 item:=by
  intro X hP hw hK hc i pins s σ H E I hf st hg;subst hP hw hK;obtain⟨xs,ys,x,y,hqx,hqy,hx,hy⟩:=hg;obtain⟨its,rv,p,hz⟩:=I.list hqx;obtain⟨jts,rw',p',hz'⟩:=I.list hqy;obtain⟨u,hu,ru⟩:=rv.get hx;obtain⟨v,hv,rv'⟩:=rw'.get hy;obtain⟨q1,q2,⟨u3,v3,q3⟩,q4,q5⟩:=st;have l1:=GK q1;have l2:=GK q2;have l3:=GK q3;have l4:i1<s.heap.objs.size:=by obtain⟨o,g,_⟩:=q4;exact GK g
  have l5:i2<s.heap.objs.size:=by obtain⟨o,g,_⟩:=q5;exact GK g
  refine wpAny_pyNext_zip_item D q1 q2 q3 q4 q5 p.isList p'.isList (x:=u) (y:=v) (by simpa using hu) (by simpa using hv) λh' a1 a2 a3 a4 a5 a6 a7=>⟨_,rfl,wpAny_letOwnedTupleGo_zip a1 λg hz2 sb=>?_⟩
  obtain⟨I2,hn⟩:=I.pair (g:=g) (tk:=s.toks) (ch:=[z,TO,i1,i2]) (x:=x) (y:=y) (λc o hb r=>(sb.2 c (λe=>hb (by simp[e]))).trans (a7 c o (λe=>hb (by simp[e])) (λe=>hb (by simp[e])) (λe=>hb (by simp[e])) (λe=>hb (by simp[e])) r)) (λc hb=>hf c (by simp at hb;rcases hb with e|e|e|e<;>simp[e])) ((sb.2 _ (Ho l1)).trans a5) ru rv';refine⟨.ref s.heap.objs.size,_,I2,rfl,⟨_,x,y,rfl,hn,rfl,λzs h=>by rw[I.list_inj h hqx];exact hx,λzs h=>by rw[I.list_inj h hqy];exact hy⟩,⟨hz2,?_,⟨_,_,(sb.2 _ D.TOz).trans a2⟩,a3.at λo r=>(sb.2 i1 D.i1z).trans r,a4.at λo r=>(sb.2 i2 D.i2z).trans r⟩,λc hb=>?_⟩
  ·exact(sb.2 _ D.TIz).trans (a7 TI _ D.TIz D.TITO D.TIi1 D.TIi2 q2)
  ·have hc0:=(hf c hb).1
   simp only[GW,Hy,or_false]at hb;have:c<s.heap.objs.size:=by rcases hb with rfl|rfl|rfl|rfl|rfl<;>assumption
   rw[ai (GV this)];exact hc0
 done:=by
  intro X hP hw hK hc i pins s σ H E I hf st hg;subst hP hw hK;obtain⟨xs,ys,hqx,hqy,hx⟩:=hg;obtain⟨its,rv,p,hz⟩:=I.list hqx;obtain⟨jts,rw',p',hz'⟩:=I.list hqy;have m1:=rv.length;have m2:=rw'.length;obtain⟨q1,q2,⟨u3,v3,q3⟩,q4,q5⟩:=st;refine wpAny_pyNext_zip_end (I.ok.hd hc) D q1 q2 q3 q4 q5 p.isList p'.isList ?_ λh' kk=>⟨rfl,I.turnedAll (t':=s.toks) (ch:=[z,TO,i1,i2]) (λc o hb r=>kk c o (λe=>hb (by simp[e])) (λe=>hb (by simp[e])) (λe=>hb (by simp[e])) (λe=>hb (by simp[e])) r) (λc hb=>hf c (by simp at hb;rcases hb with e|e|e|e<;>simp[e]))⟩
  rcases hx with h|h
  ·exact .inl (by simp;lia)
  ·exact .inr (by simp;lia)
 self:=λ_ _ _ _ _ st h=>wpAny_pyIter_zip st.1 h
section
variable{X:Cx}{a b:Expr}{t:TA}{p pos tpos:Pos}{ts:List Expr}{k:Nat}
def yw(K:GC)(t:TA):TI:=λσ H R=>t σ H λvs H1=>∃a,vs=[.ref a]/\(∃xs,SqL K H1 a xs)/\R (Ev K a) H1
def Fy(K:GC)(t:TA):TI:=λσ H R=>t σ H λvs H1=>∃a b,vs=[.ref a,.ref b]/\(∃xs,SqL K H1 a xs)/\(∃ys,SqL K H1 b ys)/\R (Itz K a b) H1
theorem nc {K:GC}(hg:Gl X "enumerate") (hm:X.mg "enumerate" = none) (ha:QA X [a] t) (hn:bQ a=true:=by rfl) (hK:X.K=K:=by rfl):QI X (.Tuple ts k tpos) (.Call (.Name "enumerate" p) [a] [] pos) (yw K t):=by
 subst hK;refine⟨λpins s σ H R I h=>?_⟩;refine Call_ (dh I hg hm (by decide +kernel:bootBuiltins "enumerate" = some (.type "enumerate")) (Hz (thn (ha.out pos pins s σ H _ I h) λus s1 ⟨vs,H1,I1,r1,q1⟩=>?_) (aC hn) rfl));obtain⟨l,e,⟨xs,hq⟩,q⟩:=q1;subst e;cases r1 with
 | cons r rr=>
  cases rr;cases r;obtain⟨its,rv,pl,hz⟩:=I1.list hq;refine call_enumerate_list pl.isList λg h1 h2 h3 h4=>wpAny_pyIter_enum h1 ?_
  have I2:Inv X pins σ H1 { s1 with heap:=g }:=I1.kept (t':=s1.toks) h4;refine⟨s1.heap.objs.size+1,[s1.heap.objs.size+1,s1.heap.objs.size],_,_,H1,rfl,I2,rp l _ _ (LM _),⟨⟨_,h1⟩,h2⟩,λc hc=>?_,q⟩;have hle:s1.heap.objs.size<=c:=by
   simp only[GW,Hy,or_false]at hc;rcases hc with rfl|rfl
   ·exact O9 _
   ·exact GF _
  exact I1.fpOk hle (I1.hok.fresh hle)
theorem B4 {K:GC}(hg:Gl X "zip") (hm:X.mg "zip" = none) (ha:QA X [a,b] t) (hn:bQ a=true:=by rfl) (hn2:bQ b=true:=by rfl) (hK:X.K=K:=by rfl):QI X (.Tuple ts k tpos) (.Call (.Name "zip" p) [a,b] [] pos) (Fy K t):=by
 subst hK;refine⟨λpins s σ H R I h=>?_⟩;have e2:starEach [b] X.env=[(false,eval b X.env)]:=aC hn2;refine Call_ (dh I hg hm (by decide +kernel:bootBuiltins "zip" = some (.type "zip")) (Hz (thn (ha.out pos pins s σ H _ I h) λus s1 ⟨vs,H1,I1,r1,q1⟩=>?_) (aC hn) (by rw[e2];rfl)));obtain⟨l,m,e,⟨xs,hq⟩,⟨ys,hq'⟩,q⟩:=q1;subst e;cases r1 with
 | cons r rr=>
  cases rr with
  | cons r' rr=>
   cases rr;cases r;cases r';obtain⟨its,rv,pl,hz⟩:=I1.list hq;obtain⟨jts,rw',pl',hz'⟩:=I1.list hq';have a1:l<s1.heap.objs.size:=by obtain⟨o,g,_⟩:=pl.isList;exact GK g
   have a2:m<s1.heap.objs.size:=by obtain⟨o,g,_⟩:=pl'.isList;exact GK g
   refine call_zip_2 pl.isList pl'.isList λg h1 h2 h3 h4 h5 h6 h7=>wpAny_pyIter_zip h1 ?_
   have I2:Inv X pins σ H1 { s1 with heap:=g }:=I1.kept (t':=s1.toks) h7;refine⟨_,_,_,_,H1,rfl,I2,wO l m _ _ _ _ _ (zipApart_new a1 a2),⟨h1,h2,⟨_,_,h3⟩,h4,h5⟩,λc hc=>?_,q⟩;have hle:s1.heap.objs.size<=c:=by
    simp only[GW,Hy,or_false]at hc;rcases hc with rfl|rfl|rfl|rfl|rfl
    ·exact IQ _ _
    ·exact IQ _ _
    ·exact IQ _ _
    ·exact GF _
    ·exact IQ _ _
   exact I1.fpOk hle (I1.hok.fresh hle)
end
section
variable{K:GC}{σ:St}{H:Hp}{Q:VK}{D:Ends}{g:TG}{te:TE}{tb:TS}
theorem Dl{t:TA}{R:It->Hp->Prop}(h:t σ H λvs H1=>∃a,vs=[.ref a]/\(∃xs,SqL K H1 a xs)/\R (Ev K a) H1):yw K t σ H R:=h
theorem Fz{t:TA}{R:It->Hp->Prop}(h:t σ H λvs H1=>∃a b,vs=[.ref a,.ref b]/\(∃xs,SqL K H1 a xs)/\(∃ys,SqL K H1 b ys)/\R (Itz K a b) H1):Fy K t σ H R:=h
theorem jF{J:It}(Pv:Nat->St->Hp->Prop)(h0:Pv 0 σ H)(hgo:∀i σ H,i<n->Pv i σ H->J.go i H)(hst:∀σ H,Pv n σ H->J.stop n H)
  (hs:∀i x σ H H',i<n->Pv i σ H->J.yld i H x H'->g x σ H' λσ2 H2=>tb { D with nx:=Pv (i+1),ct:=Pv (i+1),bk:=D.nx } σ2 H2) (hd:∀σ H,Pv n σ H->D.nx σ H) :
  ∃W:Nat->Nat->St->Hp->Prop,(∃m,W 0 m σ H)/\∀i m σ H,W i m σ H->
   (J.stop i H/\D.nx σ H)\/(J.go i H/\∃N:St->Hp->Prop,(∀σ' H',N σ' H'->∃m',m'<m/\W (i+1) m' σ' H')/\∀x H',J.yld i H x H'->g x σ H' λσ2 H2=>tb { D with nx:=N,ct:=N,bk:=D.nx } σ2 H2):=by
 refine⟨λi m σ H=>m=n - i/\i<=n/\Pv i σ H,⟨n,by simp,GR _,h0⟩,?_⟩;rintro i m σ H ⟨rfl,hi,p⟩;by_cases hlt:i<n
 ·exact .inr ⟨hgo i σ H hlt p,Pv (i+1),λσ' H' p'=>⟨n - (i+1),by lia,rfl,hlt,p'⟩,λx H' y=>hs i x σ H H' hlt p y⟩
 ·have e:i=n:=by lia
  subst e;exact .inl ⟨hst σ H p,hd σ H p⟩
theorem qh{J:It}{σ0:St}{R:List V->Hp->Prop}(Pv:Nat->List V->St->Hp->Prop)(hz:n<P4)(hl:∀i ys σ H,Pv i ys σ H->ys.length=i)(h0:Pv 0 [] σ0 H)(hgo:∀i ys σ H,i<n->Pv i ys σ H->J.go i H)(hst:∀ys σ H,Pv n ys σ H->J.stop n H)
  (hs:∀i x ys σ H H',i<n->Pv i ys σ H->J.yld i H x H'->g x σ H' λσ2 H2=>te σ2 H2 λy H3=>Nx n i (Pv (i+1) (ys++[y]) σ2 H3)) (hd:∀ys σ H,Pv n ys σ H->R ys H) :
  ∃W:Nat->Nat->List V->St->Hp->Prop,(∃m,W 0 m [] σ0 H)/\∀i m xs σc H,W i m xs σc H->xs.length<P4/\
  ((J.stop i H/\R xs H)\/(J.go i H/\∀x H',J.yld i H x H'->g x σc H' λσ2 H2=>te σ2 H2 λy H3=>∃m',m'<m/\W (i+1) m' (xs++[y]) σ2 H3)):=by
 refine⟨λi m xs σ H=>m=n - i/\i<=n/\Pv i xs σ H,⟨n,by simp,GR _,h0⟩,?_⟩;rintro i m xs σ H ⟨rfl,hi,p⟩;refine⟨by rw[hl i xs σ H p];exact HI hi hz,?_⟩;by_cases hlt:i<n
 ·exact .inr ⟨hgo i xs σ H hlt p,λx H' y=>hs i x xs σ H H' hlt p y⟩
 ·have e:i=n:=by lia
  subst e;exact .inl ⟨hst xs σ H p,hd xs σ H p⟩
end
section
variable{K:GC}{σ:St}{H:Hp}{Q:VK}{D:Ends}
theorem FA{y:Str}(h:Q (.bl (decide (PU x=PU y))) H):rEq (.str x) (.str y) H Q:=⟨rfl,h⟩
theorem FB{R:Bool->Hp->Prop}(h:ta σ H λx H'=>∃k,A0 K x H' k/\R k H'):Fv K ta σ H R:=h
theorem Ga{r:V->Option Int->Option Int->Hp->VK->Prop}{te:TE}{tl th:TO}(h:te σ H λx H1=>tl σ H1 λl H2=>th σ H2 λu H3=>r x l u H3 Q):tSl r te tl th σ H Q:=h
theorem Ew{t:TE}{R:Option Int->Hp->Prop}(h:t σ H λx H1=>∃i,x=.int i/\R (some i) H1):zq t σ H R:=h
theorem B5{R:Option Int->Hp->Prop}(h:R none H):oF σ H R:=h
theorem aV{x:V}{R:St->Hp->Prop}(e:H p=some (.tup [x,y]))(h:R ((σ.set i (some x)).set j (some y)) H):Dd K 2 (oB (gB i) (oB (gB j) Dc)) (.ref p) σ H R:=
 ⟨p,_,rfl,PQ e,rfl,_,_,rfl,_,_,rfl,rfl,h⟩
theorem Ey(h:SqL K H p xs):A0 K (.ref p) H (!xs.isEmpty):=.inl ⟨xs,h,rfl⟩
theorem Gb(h:SqT K H p xs):A0 K (.ref p) H (!xs.isEmpty):=.inr (.inl ⟨xs,h,rfl⟩)
theorem FC{α:Type}{G:Prop}{S B:α->Hp->Prop}(hA:(∀a H,S a H->B a H)->G)(hB:∀a H,S a H->B a H):G:=hA hB
theorem aA{α:Type}{f:α->V}{xs:List α}{x:V}(h:(xs.map f)[i]? = some x):∃z,x=f z/\xs[i]? = some z/\z∈xs/\i<xs.length:=by
 rw[GE]at h;cases e:xs[i]? with
 | none=>rw[e]at h;cases h
 | some z=>rw[e]at h;exact⟨z,(G8 h).symm,rfl,Hc e,(GQ.mp e).1⟩
theorem Stp.own(a:Stp p H H1)(h:H l=none)(n:l≠p):Stp p H (upd H1 l o):=by
 obtain⟨x,y,z,e,q⟩:=a.tape;exact⟨λb u e1 e2=>by rw[ai (ae e1 h)];exact a.keep b u e1 e2,⟨x,y,z,by rw[ai (Hx n)];exact e,q⟩⟩
end
def RowsAt(H:Hp)(ps:List Addr)(b m:Nat)(zs:List Nat):Prop:=ps.length=zs.length/\∀(i:Nat) (p:Addr) (z:Nat),ps[i]? = some p->zs[i]? = some z->H p=some (.tup ((dg z b m).map PR))
theorem RowsAt.same{H:Hp}(h:RowsAt H ps b m zs)(e:Same H H1):RowsAt H1 ps b m zs:=⟨h.1,λi p z a c=>e _ _ (h.2 i p z a c)⟩
theorem RowsAt.snoc{H:Hp}{z:Nat}(h:RowsAt H ps b m zs)(e:H p=some (.tup ((dg z b m).map PR))):RowsAt H (ps++[p]) b m (zs++[z]):=by
 refine⟨by simp[h.1],λi q y a c=>?_⟩;rcases aG a with⟨l,a⟩|⟨l,a⟩
 ·rcases aG c with⟨_,c⟩|⟨l',c⟩
  ·exact h.2 i q y a c
  ·have:=h.1;lia
 ·rcases aG c with⟨l',c⟩|⟨_,c⟩
  ·have:=h.1;lia
  ·rw[a,c];exact e
def Spelt(ns:List Int)(b:Nat)(zs:List Nat)(m:Nat):Prop:=(ns=[]/\zs=[]/\m=0)\/∃lo hi:Int,lo∈ns/\hi∈ns/\(∀x∈ns,lo<=x/\x<=hi)/\zs=ns.map (λx=>(x - lo).toNat)/\(hi - lo).toNat<b ^ m/\(0<m->b ^ (m - 1)<=(hi - lo).toNat)/\m<201
theorem Spelt.len{ns:List Int}(h:Spelt ns b zs m):zs.length=ns.length:=by
 rcases h with⟨rfl,rfl,_⟩|⟨lo,hi,_,_,_,rfl,_⟩
 ·rfl
 ·simp
theorem Spelt.few{ns:List Int}(h:Spelt ns b zs m):m<201:=by
 rcases h with⟨rfl,rfl,rfl⟩|⟨lo,hi,_,_,_,rfl,_,_,h⟩
 ·decide
 ·exact h
theorem Spelt.at{ns:List Int}(h:Spelt ns b zs m)(hb:2<=b){x:Int}{z:Nat}(hx:ns[i]? = some x)(hz:zs[i]? = some z):z<b ^ m/\∀lo,lo∈ns->(∀y∈ns,lo<=y)->x - lo=z:=by
 rcases h with⟨rfl,rfl,rfl⟩|⟨lo,hi,h1,h2,h3,rfl,h4,h5,h6⟩
 ·simp at hx
 ·rw[GE,hx]at hz
  have ez:(x - lo).toNat=z:=G8 hz;have hm:=h3 x (Hc hx);refine⟨by lia,λlo' g1 g2=>?_⟩;have a1:=g2 lo h1;have a2:=(h3 lo' g1).1;lia
section
variable{X:Cx}{e:Expr}{te:TE}{g:TG}{pos tpos:Pos}{ts:List Expr}{k:Nat}
theorem dY(he:QE X e te)(hg:QG X (.Tuple ts k tpos) g)(hs:QN [.Tuple ts k tpos] e pos.line X.env=pure false:=by rfl)(hw:QP [.Tuple ts k tpos] e X.env=pure none:=by rfl)
  (h1:(Qn [.Tuple ts k tpos] X.env).map (·.2)=[assign (.Tuple ts k tpos) X.env]:=by rfl):QS X (.Assign [.Tuple ts k tpos] e pos) (sr te g):=⟨su he.out hg.out hs hw h1⟩
end
section
variable{K:GC}{σ:St}{H:Hp}
end
theorem ng{i:Int}(e:i=j)(h:j<n):ixN n i=some j:=by
 subst e;unfold ixN;rw[if_pos ⋯,if_pos ⋯];simp
noncomputable def bj(tb:List (Int×Nat)):List Int:=tb.map λz=>z.1*((fQ (tb.map (·.2)) / z.2:Nat):Int)
theorem bw(tb:List (Int×Nat)):(bj tb).length=tb.length:=by simp[bj]
theorem tQ{tb:List (Int×Nat)}(hb:∀z∈tb,1<=z.2/\z.2<=60)(ht:∀z∈tb,-(10 ^ 18)<z.1/\z.1<10 ^ 18):∀x∈bj tb,-(2 ^ 190)<x/\x<2 ^ 190:=by
 intro x hx;obtain⟨z,hz,rfl⟩:=GX.mp hx;have h1:=ht z hz;have hM:fQ (tb.map (·.2))∣A1:=BZ λb h=>by
  obtain⟨y,hy,rfl⟩:=GX.mp h;exact hb y hy
 have h2:fQ (tb.map (·.2))<=A1:=Lm (by decide +kernel) hM;have h3:A1<2 ^ 90:=by decide +kernel
 have h4:fQ (tb.map (·.2)) / z.2<=fQ (tb.map (·.2)):=Nat.div_le_self _ _;generalize fQ (tb.map (·.2)) / z.2=c at h4;have h5:c<2 ^ 90:=by lia
 have h6:z.1.natAbs<2 ^ 60:=by lia
 have h7:(z.1*(c:Int)).natAbs<2 ^ 150:=by
  rw[Int.natAbs_mul,Nc]
  calc z.1.natAbs*c<2 ^ 60*2 ^ 90:=Nat.mul_lt_mul'' h6 h5
   _=2 ^ 150:=by decide
 lia
theorem oV:∀{xs:List V}{us:List Value},xs.length=us.length->(∀(i:Nat) x u,xs[i]? = some x->us[i]? = some u->RelV x u)->Vals xs us
 | [],[],_,_=>.nil
 | [],_::_,h,_=>by simp at h
 | _::_,[],h,_=>by simp at h
 | x::xs,u::us,h,r=>.cons (r 0 x u rfl rfl) (oV (by simpa using h) λi y v a b=>r (i+1) y v (by simpa using a) (by simpa using b))
section
variable{X:Cx}{a b e o:Expr}{es:List Expr}{t:TA}{te to tb:TE}{p p2 pos pos2 apos cpos tpos:Pos}
noncomputable def cP(lo n:Nat):List V:=(GH n).map λi=>PR ((lo+i:Nat):Int)
def yx(t:TA):TE:=λσ H Q=>t σ H λvs H1=>∃j:Nat,vs=[.int j]/\j<=1000/\∀l,H1 l=none->Q (.ref l) (upd H1 l (.lst (cP 0 j)))
theorem Gc{H:Hp}{s:Shared}{Q:VK}{t u v:Tok}(hc:X.calm=true)(I:Inv X pins σ H s)(h1:i<=1000)(h2:j<=1000)(h3:i<=j)(q:∀l,H l=none->Q (.ref l) (upd H l (.lst (cP i (j - i))))):
  wpAny (model X.prog X.w) X.A (call (.type "list") [.ref s.heap.objs.size]) (EP X pins σ Q) X.xe { s with heap:=s.heap.push { cls:=.type "range",data:=.fields #[.int i t,.int j u,.int 1 v] },toks:=tk }:=by
 have I1:Inv X pins σ H { s with heap:=s.heap.push { cls:=.type "range",data:=.fields #[.int i t,.int j u,.int 1 v] },toks:=tk }:=I.kept λb o e=>GD _ e
 refine call_list_range (n:=j - i) (I.ok.hd hc) (Mr ..) (small_one ⋯ ⋯ ⋯ ⋯) (by rw[rangeSize_one];split<;>lia) ⋯ λh' tk' acc' c' hk hg hi=>?_
 obtain⟨hz,hit⟩:=hi;refine⟨.ref _,_,I1.laid (t':=tk') (o:=.lst (cP i (j - i))) hk (GF _) ?_,rfl,q _ (I1.hok.fresh (GF _))⟩;refine⟨by simp only[cP,GA,HH];exact az ⋯,acc'.toList,c',?_,?_⟩
 ·refine oV (by simp[cP,hz]) λk x w a b=>?_
  have hk':k<j - i:=by have:=(GQ.mp a).1;simpa [cP]using this
  unfold cP at a;rw[GE,Hu hk']at a;obtain rfl:=G8 a;obtain⟨tt,rfl⟩:=hit k w (by simpa using b);refine⟨tt,?_⟩;rw[Nz,NS]
 ·simpa using hg
theorem lD (hc:X.calm=true) (hgl:Gl X "list") (hml:X.mg "list" = none) (hgr:Gl X "range") (hmr:X.mg "range" = none) (ha:QA X [a] t) (hn:bQ a=true:=by rfl):QE X (.Call (.Name "list" p) [.Call (.Name "range" p2) [a] [] pos2] [] pos) (yx t):=by
 refine⟨λpins s σ H Q I h=>?_⟩;refine Call_ (dh I hgl hml (by decide +kernel:bootBuiltins "list" = some (.type "list")) (Hz ?_ (aC rfl) rfl));refine IV (Call_ (dh I hgr hmr boot_range (Hz (thn (ha.out pos2 pins s σ H _ I h) λus s1 ⟨vs,H1,I1,r1,q1⟩=>?_) (aC hn) rfl)));obtain⟨j,e,q1,q⟩:=q1;subst e;cases r1 with
 | cons r rr=>
  cases rr;obtain⟨tt,rfl⟩:=r;exact call_range_1 (JA (Gc (i:=0) hc I1 ⋯ q1 ⋯ q))
inductive TyB (H:Hp):V->Value->Prop where
 | non:TyB H .non (.type "NoneType")
 | int (i:Int):TyB H (.int i) (.type "int")
 | lst {a:Addr}{xs:List V}(e:H a=some (.lst xs)):TyB H (.ref a) (.type "list")
 | tup {a:Addr}{xs:List V}(e:H a=some (.tup xs)):TyB H (.ref a) (.type "tuple")
def B6 (K:GC):RC:=λxs H Q=>∃x t tp b,xs=[x,.ref tp]/\H tp=some (.tup [.ty "list",.ty "tuple"])/\TyB H x t/\N4 K t [.type "list",.type "tuple"]=some b/\Q (.bl b) H
theorem zJ {K:GC}(hK:X.K=K:=by rfl):QC X (.builtin "isinstance") (B6 K):=by
 subst hK;refine⟨λpins s σ H xs us Q I r h=>?_⟩;obtain⟨x,t,tp,b,rfl,htp,ty,e,q⟩:=h;cases r with
 | cons rx rr=>
  cases rr with
  | cons ry rr=>
   cases rr;cases ry;obtain⟨_,its,rv,⟨⟨c,dd,dt,sl⟩,g1,g2,n,g3⟩⟩:=(show ObjOk X.prog X.w H s.heap tp (.tup [.ty "list",.ty "tuple"])from I.hok tp _ htp);have g2':c=.type "tuple":=g2;have g3':dt=.seq its.toArray n:=g3;subst g2' g3';have ei:its=[.type "list",.type "tuple"]:=by
    cases rv with
    | cons r1 rr=>
     cases rr with
     | cons r2 rr=>
      cases rr;cases r1;cases r2;rfl
   subst ei;have fin:∀tk,EP X pins σ Q (.bool b) { s with toks:=tk }:=λtk=>⟨.bl b,H,I.tok _,rfl,q⟩
   cases ty with
   | non=>cases(show _=Hf from rx);exact Io Ls I.kIn GL g1 e (λz=>nomatch z) fin
   | int i=>obtain⟨tt,rfl⟩:=rx;exact Io LF I.kIn GL g1 e (λz=>nomatch z) fin
   | @lst a xs ea=>
    cases rx;obtain⟨_,_,n',_,h1⟩:=(show ObjOk X.prog X.w H s.heap a (.lst xs)from I.hok a _ ea);exact Io Kj I.kIn ⟨_,h1,rfl⟩ g1 e (λz=>nomatch z) fin
   | @tup a xs ea=>
    cases rx;obtain⟨_,_,_,⟨o',h1,h2,_⟩⟩:=(show ObjOk X.prog X.w H s.heap a (.tup xs)from I.hok a _ ea);exact Io K8 I.kIn ⟨_,h1,h2⟩ g1 e (λz=>nomatch z) fin
end
section
variable{K:GC}{σ:St}{H:Hp}{Q:VK}
theorem Dm{t:TA}(h:t σ H λvs H1=>∃j:Nat,vs=[.int j]/\j<=1000/\∀l,H1 l=none->Q (.ref l) (upd H1 l (.lst (cP 0 j)))):yx t σ H Q:=h
theorem wP {tp:Addr}(s:H p=some (.lst xs)) (e:H tp=some (.tup [.ty "list",.ty "tuple"])) (h:Q (.bl true) H):B6 K [.ref p,.ref tp] H Q:=⟨_,_,tp,_,rfl,e,.lst s,rfl,h⟩
end
def Tp2(H:Hp)(p:Addr):Prop:=∃a b:Int,H p=some (.lst [.int a,.int b])/\0<=a/\0<=b
structure St2 (p:Addr) (H H':Hp):Prop where
 keep:∀q o,H q=some o->q≠p->H' q=some o
 tape:Tp2 H' p
section
variable{H H1 H2:Hp}{p q l:Addr}{o:HO}
end
noncomputable def NV(os:List Nat):List V:=os.map λo:Nat=>PR o
theorem aw(os:List Nat):(NV os).length=os.length:=by simp[NV]
theorem k4(os:List Nat):NV os=(os.map λo:Nat=>(o:Int)).map PR:=by rw[NV,Hv];rfl
theorem gM{os:List Nat}{o:Nat}(h:os[i]? = some o):(NV os)[i]? = some (PR o):=by rw[NV,GE,h];rfl
theorem kI{os:List Nat}{o:Nat}{k:Int}(e:k=i)(h:os[i]? = some o):atI (NV os) k=some (PR o):=by rw[e];exact aU (gM h)
theorem bJ(os:List Nat)(o:Nat):NV os++[PR o]=NV (os++[o]):=by simp[NV]
theorem lE(lo n:Nat):cP lo n=NV ((GH n).map λi=>lo+i):=by simp[cP,NV]
def LsAt(H:Hp)(ps:List Addr)(nss:List (List Nat)):Prop:=ps.length=nss.length/\∀(i:Nat) p ns,ps[i]? = some p->nss[i]? = some ns->H p=some (.lst (NV ns))
section
variable{H H1:Hp}{ps:List Addr}{nss:List (List Nat)}
theorem LsAt.same(h:LsAt H ps nss)(e:Same H H1):LsAt H1 ps nss:=⟨h.1,λi p z a c=>e _ _ (h.2 i p z a c)⟩
theorem LsAt.snoc{ns:List Nat}(h:LsAt H ps nss)(e:H p=some (.lst (NV ns))):LsAt H (ps++[p]) (nss++[ns]):=by
 refine⟨by simp[h.1],λi q y a c=>?_⟩;rcases aG a with⟨l,a⟩|⟨l,a⟩
 ·rcases aG c with⟨_,c⟩|⟨l',c⟩
  ·exact h.2 i q y a c
  ·have:=h.1;lia
 ·rcases aG c with⟨l',c⟩|⟨_,c⟩
  ·have:=h.1;lia
  ·rw[a,c];exact e
theorem LsAt.nil:LsAt H [] []:=⟨rfl,λi p ns h=>by simp at h⟩
theorem LsAt.some(h:LsAt H ps nss){p:Addr}(hp:p∈ps):∃ns,ns∈nss/\H p=Option.some (.lst (NV ns)):=by
 obtain⟨i,hi,rfl⟩:=JN.mp hp;have hi2:i<nss.length:=by rw[<-h.1];exact hi
 exact⟨nss[i],GU hi2,h.2 i ps[i] nss[i] (by simp[hi]) (by simp[hi2])⟩
end
noncomputable def Do(os:List Nat):Nat->List Bool->Nat->List Nat×List Bool
 | 0,met,_=>([],met)
 | f+1,met,pl=>if met.getD pl true=true then([],met)else(pl::(Do os f (met.set pl true) (os.getD pl 0)).1,(Do os f (met.set pl true) (os.getD pl 0)).2)
noncomputable def few(met:List Bool):Nat:=met.count false
theorem tR{xs:List Nat}(hn:xs.Nodup)(hi:i<xs.length)(hj:j<xs.length)(e:xs[i]=xs[j]):i=j:=by
 rcases Ij i j with h|h|h
 ·exact absurd e (Hq.mp hn i j hi hj h)
 ·exact h
 ·exact absurd e.symm (Hq.mp hn j i hj hi h)
theorem qi(os:List Nat)(i o:Nat):(NV os).set i (PR o)=NV (os.set i o):=by simp[NV,OT]
section
variable{X:Cx}{e:Expr}{te:TE}{pos p1 p2 p3 p4 p5:Pos}{j j':Nat}
end
structure Ord (os:List Nat) (n:Nat):Prop where
 len:os.length=n
 lt:∀x∈os,x<n
 inj:∀(i j r:Nat),os[i]? = some r->os[j]? = some r->i=j
 sur:∀x,x<n->∃i,i<n/\os[i]? = some x
theorem Ord.of_perm{os:List Nat}(h:os.Perm (GH n)):Ord os n:=by
 have hl:os.length=n:=by have:=h.length_eq;rw[HH]at this;exact this
 refine⟨hl,λx hx=>Hj.mp (h.mem_iff.mp hx),λi j r a b=>?_,λx hx=>?_⟩
 ·obtain⟨a1,a2⟩:=GQ.mp a
  obtain⟨b1,b2⟩:=GQ.mp b;exact tR (h.nodup_iff.mpr NI) a1 b1 (by rw[a2,b2])
 ·obtain⟨i,hi⟩:=JO (h.mem_iff.mpr (Hj.mpr hx))
  exact⟨i,by have:=(GQ.mp hi).1;lia,hi⟩
theorem Ord.get{os:List Nat}(h:Ord os n)(hi:i<n):∃r,os[i]? = some r/\r<n:=by
 have hl:i<os.length:=by rw[h.len];exact hi
 exact⟨os[i],by simp[hl],h.lt _ (GU hl)⟩
noncomputable def cmp(one other:List Nat):List Nat:=other.map λj=>one.getD j 0
theorem oW{one other:List Nat}{r:Nat}(h1:other[i]? = some j)(h2:one[j]? = some r):(cmp one other)[i]? = some r:=by
 unfold cmp;rw[GE,h1];show some (one.getD j 0)=some r
 rw[GB,h2];rfl
theorem ip(one other:List Nat):(cmp one other).length=other.length:=by simp[cmp]
theorem aI{α:Type}{xs:List α}{x:α}(h:xs[i]? = some x):i<xs.length:=(GQ.mp h).1
section
variable{X:Cx}{N tgs frs:List Str}{ix:List Nat}{scope:Scope}{cl:List (Str×Addr)}
theorem gN{prog:Program}{w:World}{A:Around}{R:Result->Shared->Prop}{s:Shared}{elt target iter cnd:Expr}{pos:Pos}{it acc:Value}{env:Env}(I:Nat->Shared->Prop)
  (turn:∀n s,I n s->wpAny (model prog w) A (pyNext it) (λr s1=>match r with
   | none=>R (.ok .next) s1
   | some v=>wpAny (model prog w) A (letOwnedTupleGo target it v) (λ_ s1'=>wpAny (model prog w) A (assign target env v) (λ_ s2=>wpAny (model prog w) A (isTrue cnd env (eval cnd env)) (λb s2'=>if b=true then wpAny (model prog w) A (eval elt env) (λx s3=>
     wpAny (model prog w) A (call (.builtin "list.append") [acc,x]) (λ_ s4=>∃m,m<n/\I m s4) (λ_ _=>False) s3)
     (λ_ _=>False) s2' else ∃m,m<n/\I m s2') (λ_ _=>False) s2) (λ_ _=>False) s1') (λ_ _=>False) s1) (λ_ _=>False) s)
  (n:Nat) (h:I n s) :
  codeAny (model prog w) A (.compLoop (.ListComp elt [⟨target,iter,[cnd],0⟩] scope pos) 0 it acc env) R s:=by
 have up:∀{α:Type}{t:Sem α}{Q Q':α->Shared->Prop}{E:Value->Shared->Prop}{s:Shared},wpAny (model prog w) A t Q (λ_ _=>False) s->(∀a s,Q a s->Q' a s)->wpAny (model prog w) A t Q' E s:=λh hq=>P8 h hq λ_ _ f=>f.elim
 refine codeAny_loop rfl I (λn s hI=>?_) n h;show wpAny _ _ ((compTurn (.ListComp elt [⟨target,iter,[cnd],0⟩] scope pos) 0 it acc env).onRaise (λx=>do noteFrame x env;theTreesLotGoes x)) _ _ s
 refine wpAny_noted ?_;rw[compTurn_list];refine P2 (Qr (P2 (up (turn n s hI) (λr s1 h1=>?_))));cases r with
 | none=>exact P3 h1
 | some v=>
  refine P2 (up h1 λ_ s1' h1'=>?_);refine P2 (up h1' λ_ s2 h2=>?_);simp only[List.forIn_cons,N5,if_true];refine P2 (P2 (P2 (up h2 λb s3 h3=>P3 (P3 ?_))));cases b with
  | true=>
   rw[if_pos rfl]at h3;show wpAny _ _ (if true=true then _ else _) _ _ _
   rw[if_pos rfl];exact P2 (P2 (up h3 (λx s4 h4=>P2 (up h4 (λ_ s5 h5=>P3 (P3 ⟨rfl,h5⟩))))))
  | false=>
   rw[if_neg (by decide)]at h3;show wpAny _ _ (if false=true then _ else _) _ _ _
   rw[if_neg (by decide)];exact P3 ⟨rfl,h3⟩
def nh(wi:TI)(g:TG)(tc:TT)(te:TE)(tgs:List Str)(ix:List Nat):TE:=λσ H Q=>wi σ H λJ H1=>
 ∃W:Nat->Nat->List V->St->Hp->Prop,(∃m,W 0 m [] (di tgs ix σ) H1)/\∀i m xs σc H,W i m xs σc H->xs.length<P4/\
  ((J.stop i H/\∀p,H p=none->Q (.ref p) (upd H p (.lst xs)))\/(J.go i H/\∀x H',J.yld i H x H'->g x σc H' λσ2 H2=>tc σ2 H2 λb H3=>if b=true then te σ2 H3 λy H4=>∃m',m'<m/\W (i+1) m' (xs++[y]) σ2 H4 else ∃m',m'<m/\W (i+1) m' xs σ2 H3))
theorem wQ{te:TE}(c:CompOk X N tgs frs ix scope cl)(hc:X.calm=true)(hi:PI X tg iter wi)
  (hg:∀fp C s H,PG (av X N scope cl fp C s H) tg g) (he:∀fp C s H,PE (av X N scope cl fp C s H) elt te)
  (hcd:∀fp C s H,PT (av X N scope cl fp C s H) cnd tc)
  (hs:∀x,Qa iter X.env x=pure x:=by intro _;rfl) :
  PE X (.ListComp elt [⟨tg,iter,[cnd],0⟩] scope pos) (nh wi g tc te tgs ix):=by
 intro pins s σ H Q I h;rw[eval_ListComp];refine Qi (use:=none) rfl hs c.clos c.kind c.names (thn (hi pins s σ H _ I h) λxv s1 h1=>thn h1 λitv s2 h2=>?_);obtain⟨it,fp,tn,J,H2,rfl,I2,T,st2,f2,W,⟨m0,w0⟩,turn⟩:=h2;have hfl:∀b∈fp,b<s2.heap.objs.size:=λb hb=>by
  obtain⟨o,e,_⟩:=T.obj _ _ st2 b hb;exact GK e
 have hcn:∀x a,cl.lookup x=some a->X.env.cells.lookup x=some a:=c.cls.get
 refine P5 (Qz c.cell (by intro y hy;simp at hy) (λh1 hns1 hsb1=>?_) c.kind);dsimp only at hns1 hsb1 ⊢;generalize hH2:s2.heap.push { cls:=.type "list",dict:=none,data:=.seq ([]:List Value).toArray }=G2 at hns1 hsb1 ⊢;have hC:G2.objs.size=s2.heap.objs.size+1:=by rw[<-hH2,IR]
 generalize hCC:G2.objs.size=C at *;generalize hDD:s2.heap.objs.size=D at *;have hDC:D≠C:=by lia
 have hCle:D<=C:=by lia
 have old:∀b o,s2.heap.get? b=some o->h1.get? b=some o:=λb o e=>by
  have lt:b<s2.heap.objs.size:=GK e;exact hsb1.extBut b o (GV (G0 (hDD▸lt) hCle)) (GD _ (hH2▸GD _ e))
 have hacc:h1.get? D=some (aB [] 0):=hsb1.extBut _ _ hDC (GD _ (hH2▸(hDD▸GT _ rfl)));have cellD:∀x a,X.env.cells.lookup x=some a->a<D:=λx a e=>by
  obtain⟨v,q⟩:=I2.cell x a e;exact hDD▸q.lt
 have fpc:∀{H':Hp}{us:List Value}{k:Nat},(∀b∈fp,H' b=none)->∀b∈fp,oD (av X N scope cl fp C s2 H2) [(D,aB us k)] H' b:=λ{H' us k} hn b hb=>by
  have lb:=hfl b hb;refine⟨hn b hb,?_,λz=>?_,.inl hb,λx a e z=>?_,λp hp=>?_⟩
  ·exact GV (G0 lb hCle)
  ·rcases GW.mp (I2.stkSub b z)with e|e
   ·exact(f2 b hb).2.1 e
   ·exact(f2 b hb).2.2.1 e
  ·exact(f2 b hb).2.2.2.2.1 x a (hcn x a e) z
  ·have:p=(D,aB us k):=by simpa [av]using hp
   rw[this];exact Ho lb
 have D_fs:D∉(av X N scope cl fp C s2 H2).fs:=λz=>by
  rcases GW.mp (I2.stkSub D z)with e|e
  ·exact absurd I2.lt (by rw[<-e,hDD];exact Hw _)
  ·exact I2.nofs (HR hDD) e
 have I3:=jg (tk:=s2.toks+([]:List (Str×Value)).length) (pins':=[(D,aB [] 0)]) c I2 f2 (λb hb=>hDD▸hfl b hb) (hDD▸hCle:s2.heap.objs.size<=C) hns1 old (λp hp=>by
  have e:p=(D,aB [] 0):=by simpa using hp
  subst e;exact⟨hacc,HR hDD,hDC,λv z=>by cases z⟩)
 have tn3:tn 0 h1:=T.keep _ _ _ st2 λb _ o e=>old b o e
 have loop:codeAny (model X.prog X.w) X.A (.compLoop (.ListComp elt [⟨tg,iter,[cnd],0⟩] scope pos) 0 (.ref it) (.ref D) (compEnvC scope cl C X.env))
   (compPost (model X.prog X.w) X.A X.xe none (EP X pins σ Q) (.ref D) C) { s2 with heap:=h1,toks:=s2.toks+([]:List (Str×Value)).length }:=by
  refine gN (λn s'=>∃i xs us k σc H',Inv (av X N scope cl fp C s2 H2) [(D,aB us k)] σc H' s'/\tn i s'.heap/\(∀b∈fp,H' b=none)/\Vals xs us/\W i n xs σc H') ?_ m0
   ⟨0,[],[],0,_,H2,I3,tn3,λb hb=>(f2 b hb).1,.nil,w0⟩
  rintro n s4 ⟨i,xs,us,k,σ4,H4,I4,tn4,fr4,rv,w4⟩;obtain⟨hsz,tt⟩:=turn i n xs σ4 H4 w4;rcases tt with⟨stop,fin⟩|⟨go,step⟩
  ·refine thn (T.done (av X N scope cl fp C s2 H2) rfl rfl rfl hc i _ s4 σ4 H4 _ I4 (fpc fr4) tn4 stop) λr s5 ⟨hr,I5⟩=>?_
   subst hr;obtain⟨m,ns,_⟩:=I5.loc;refine⟨m,ns,λh' sb=>?_⟩;have J1:Inv X pins σ H4 s5:=I2.call' I5.os I5.base I5.hok I5.bare λb hb=>⟨(f2 b hb).2.2.2.1,(f2 b hb).2.1,(f2 b hb).2.2.2.2.1,(f2 b hb).2.2.2.2.2⟩
   have big:∀a,D<=a->a≠X.env.locals/\(a∈X.ex\/X.s₀.heap.objs.size<=a)/\(∀x y,X.env.cells.lookup x=some y->y≠a)/\∀p∈X.pn++pins,p.1≠a:=λa ha=>by
    obtain⟨q0,q1,q2,q3,q4,q5⟩:=I2.fpOk (b:=a) (H':=λ_=>none) (hDD▸ha) rfl;exact⟨q1,q3,q4,q5⟩
   obtain⟨b1,b2,b3,b4⟩:=big C hCle;have J2:Inv X pins σ H4 { s5 with heap:=h' }:=J1.turned (t':=s5.toks) (λb o hb e=>sb.extBut b o hb e) I5.free b1 b2 b3 b4;obtain⟨p1,p2,p3,p4,p5⟩:=I5.pin (D,aB us k) (by simp);obtain⟨d1,d2,d3,d4⟩:=big D (GF _);have J3:Inv X pins σ (upd H4 D (.lst xs)) { s5 with heap:=h' }:=J2.adopt p2 d1 d2 d3 d4 ⟨HK hsz,us,k,rv,sb.extBut _ _ hDC p1⟩;exact⟨.ref D,_,J3,rfl,fin D p2⟩
  ·refine thn (T.item (av X N scope cl fp C s2 H2) rfl rfl rfl hc i _ s4 σ4 H4 _ I4 (fpc fr4) tn4 go) λr s5 ⟨u,hr,h5⟩=>?_
   subst hr;refine thn h5 λ_ s6 ⟨x,H6,I6,r6,y6,tn6,fr6⟩=>?_
   have I6':=I6.pinned (fpc fr6) (T.obj _ _ tn6);refine thn (hg fp C s2 H2 _ s6 σ4 H6 x u _ I6' r6 (step x H6 y6)) λ_ s7 ⟨σ7,H7,I7,q7⟩=>?_
   refine thn (hcd fp C s2 H2 _ s7 σ7 H7 _ I7 q7) λb s7' ⟨H7',I7',q7'⟩=>?_
   cases b with
   | false=>
    rw[if_neg (by decide)]at q7' ⊢;obtain⟨m',hm,w8⟩:=q7';have tn8:tn (i+1) s7'.heap:=T.keep _ _ _ tn6 λb hb o e=>(I7'.pin (b,o) (GG _ (GG _ (aM hb e)))).1
    have fr8:∀b∈fp,H7' b=none:=λb hb=>by
     obtain⟨o,e,d⟩:=T.obj _ _ tn6 b hb;exact(I7'.pin (b,o) (GG _ (GG _ (aM hb e)))).2.1
    exact⟨m',hm,i+1,xs,us,k,σ7,H7',I7'.unpinned,tn8,fr8,rv,w8⟩
   | true=>
    rw[if_pos rfl]at q7' ⊢;refine thn (he fp C s2 H2 _ s7' σ7 H7' _ I7' q7') λyv s8 ⟨y,H8,I8,r8,m',hm,w8⟩=>?_
    obtain⟨p1,p2,p3,p4,p5⟩:=I8.pin (D,aB us k) (by simp[av]);have hsz':us.toArray.size<=P4:=by simp;rw[<-rv.length];exact HK hsz
    refine Ql (hsz:=hsz') ⟨k,p1⟩ λh' pl sb=>?_
    have tn8:tn (i+1) s8.heap:=T.keep _ _ _ tn6 λb hb o e=>(I8.pin (b,o) (GG _ (GG _ (aM hb e)))).1
    have fr8:∀b∈fp,H8 b=none:=λb hb=>by
     obtain⟨o,e,d⟩:=T.obj _ _ tn6 b hb;exact(I8.pin (b,o) (GG _ (GG _ (aM hb e)))).2.1
    have I9:Inv (av X N scope cl fp C s2 H2) [] σ7 H8 s8:=I8.pins_of λp hp=>nomatch hp
    have I10:Inv (av X N scope cl fp C s2 H2) [] σ7 H8 { s8 with heap:=h' }:=I9.turned (t':=s8.toks) (it:=D) (λb o hb e=>sb.extBut b o hb e) p2 p3 (.inr (HR hDD))
     (λx a e=>GV (cellD x a (hcn x a e))) (λp hp=>by simp[av]at hp)
    obtain⟨k',pl⟩:=pl;have eu:us.toArray.push yv=(us++[yv]).toArray:=by simp
    rw[eu]at pl;have I11:Inv (av X N scope cl fp C s2 H2) [(D,aB (us++[yv]) k')] σ7 H8 { s8 with heap:=h' }:=I10.pins_of λp hp=>by
     have e:p=(D,aB (us++[yv]) k'):=by simpa using hp
     subst e;exact⟨pl,p2,p3,p4,λv z=>by cases z⟩
    exact⟨m',hm,i+1,xs++[y],us++[yv],k',σ7,H8,I11,T.keep _ _ _ tn8 λb hb o e=>sb.extBut b o (GV (hfl b hb)) e,fr8,rv.append (.cons r8 .nil),w8⟩
 exact Qq loop (T.self _ 0 _ _ _ tn3 loop)
theorem wR{te:TE}(c:CompOk X N tgs frs ix scope cl)(hc:X.calm=true)(hi:QI X tg iter wi)
  (hg:∀fp C s H,QG (av X N scope cl fp C s H) tg g) (he:∀fp C s H,QE (av X N scope cl fp C s H) elt te) (hcd:∀fp C s H,QT (av X N scope cl fp C s H) cnd tc)
  (hs:∀x,Qa iter X.env x=pure x:=by intro _;rfl) :
  QE X (.ListComp elt [⟨tg,iter,[cnd],0⟩] scope pos) (nh wi g tc te tgs ix):=⟨wQ c hc hi.out (λfp C s H=>(hg fp C s H).out) (λfp C s H=>(he fp C s H).out) (λfp C s H=>(hcd fp C s H).out) hs⟩
end
section
variable{X:Cx}{e o b:Expr}{to tb te:TE}{t:TA}{pos apos cpos tpos:Pos}
theorem tT {K:GC}(ho:QE X o to) (hbase:attributeBase o ("pop" : Str) X.env (eval o X.env)=eval o X.env:=by rfl) (hline:(apos.endLine == cpos.line)=true:=by rfl) (hK:X.K=K:=by rfl) :
  QE X (.Call (.Attribute o "pop" apos) [] [] cpos) (D7 K "list" D9 to):=by subst hK;exact⟨BF Jt PySem.F.slot_list_pop PySem.F.type_list_pop BG ho.out hbase hline⟩
theorem ni {K:GC}(ho:QE X o to) (ha:QA X [e] t) (hbase:attributeBase o ("extend" : Str) X.env (eval o X.env)=eval o X.env:=by rfl) (hline:(apos.endLine == cpos.line)=true:=by rfl) (hn:bQ e=true:=by rfl) (hK:X.K=K:=by rfl) :
  QE X (.Call (.Attribute o "extend" apos) [e] [] cpos) (tBM K "list" oI to t):=by subst hK;exact⟨tF Jt LN LO sY ho.out ha.out hbase hline hn⟩
end
theorem rq{M:Model}{A:Around}{s:Shared}{globals:Addr}{closure:List (Str×Addr)}{func:Option Addr}{code:Value}{around:Option Env}{builtins:Addr}{Q:Env->Shared->Prop}
  (hc:∀n,cellsFrom n scope.names closure=(x,n)::closure) (hp:∀h,pushCells h scope.names=h.push { cls:=.type "cell",data:=.cell none })
  (hQ:Q (newEnv scope s.heap.objs.size globals ((x,s.heap.objs.size+1)::closure) qual func code around builtins) { s with heap:=(s.heap.push { cls:=.type (if around.isSome then "dict" else "frame"),data:=.dict #[] }).push { cls:=.type "cell",data:=.cell none } }) :
  wpAny M A (newFunctionEnv scope globals closure [] qual func code around builtins) Q E s:=by
 simp only[newFunctionEnv];refine P2 (wpAny_alloc ?_);refine P2 (wpAny_layCells _ (λa b c=>by cases e:b == PM<;>simp[e]) _ _ _ _ ?_);rw[hc,hp];rw[show({ s with heap:=s.heap.push { cls:=.type (if around.isSome then "dict" else "frame"),data:=.dict #[] } }:Shared).heap.objs.size=s.heap.objs.size+1 from IR ..];refine P2 ?_;rw[N5];exact P3 (P3 hQ)
noncomputable def bD(X:Cx)(N:List Str)(scope:Scope)(cl:List (Str×Addr))(xc:Str)(fp:List Addr)(C:Addr)(s:Shared)(H:Hp):Cx:=
 { X with N:=N,s₀:=s,H₀:=H,env:=compEnvC scope ((xc,C+1)::cl) C X.env,outer:=X.stack,ex:=fp,fn:=λy=>y == xc,pn:=[],xe:=λ_ _=>False }
structure CompOkC (X:Cx) (N tgs frs:List Str) (ix:List Nat) (scope:Scope) (cl:List (Str×Addr)) (xc:Str):Prop where
 clos:closureFor scope X.env=pure cl
 cells:∀n,cellsFrom n scope.names cl=(xc,n)::cl
 push:∀h,pushCells h scope.names=h.push { cls:=.type "cell",data:=.cell none }
 kind:scope.kind=.function
 names:∀y∈scope.names,y.2=.local->scope.names.lookup y.1=some .local
 nm:N=tgs++frs
 ixs:ix.map (X.N[·]?)=frs.map some
 fr:FrOk X scope cl frs
 nx:xc∉frs
 cls:ClOk X cl
 has:(relabel scope X.env).names.all (λp=>!(p.2 == .cell || p.2 == .free) || (p.1 == xc || (cl.lookup p.1).isSome))=true
theorem jG{y:Str}{c:Addr}{cl:List (Str×Addr)}(h:((x,c)::cl).lookup y=some a):(y=x/\a=c)\/(y≠x/\cl.lookup y=some a):=by
 rw[Jk]at h;cases e:y == x with
 | true=>rw[e]at h;exact .inl ⟨eq_of_beq e,(G8 h).symm⟩
 | false=>rw[e]at h;exact .inr ⟨ne_of_beq_false e,h⟩
section
variable{X:Cx}{N tgs frs:List Str}{ix:List Nat}{scope:Scope}{cl:List (Str×Addr)}{xc:Str}
theorem oX(nm:N=tgs++frs)(ixs:ix.map (X.N[·]?)=frs.map some)(h1:N[i]? = some x)(h2:(di tgs ix σ)[i]? = some (some v)):x∈frs/\∃j:Nat,X.N[j]? = some x/\σ[j]? = some (some v):=by
 unfold di at h2;by_cases hi:i<tgs.length
 ·rw[G6 (by simpa using hi),Js,if_pos hi]at h2
  cases h2
 ·rw[He (by simpa using hi),IY,GE]at h2
  rw[nm,He ⋯]at h1;have e:=congrArg (·[i - tgs.length]?) ixs;simp only[GE,h1]at e;cases q:ix[i - tgs.length]? with
  | none=>rw[q]at e;cases e
  | some j=>
   rw[q]at e h2;simp only[KG,Lv]at e h2;refine⟨Hc h1,j,e,?_⟩;cases z:σ[j]? with
   | none=>rw[z]at h2;cases h2
   | some o=>rw[z]at h2;simp at h2;rw[h2]
theorem CompOkC.hasOf(c:CompOkC X N tgs frs ix scope cl xc){C:Addr}(h:(relabel scope X.env).names.lookup x=some .cell\/(relabel scope X.env).names.lookup x=some .free):∃a,((xc,C+1)::cl).lookup x=some a:=by
 have all:=Jl.mp c.has;have key:x == xc\/(cl.lookup x).isSome=true:=by
  rcases h with h|h
  ·have q:=all _ (cN h)
   simpa only[beq_self_eq_true,KM,JQ,Jv,Mm]using q
  ·have q:=all _ (cN h)
   simpa only[beq_self_eq_true,LJ,JQ,Jv,Mm]using q
 rw[Jk];cases e:x == xc with
 | true=>exact⟨_,rfl⟩
 | false=>
  rcases key with k|k
  ·rw[e]at k;cases k
  ·exact Ip.mp k
theorem tU{H:Hp}{s2:Shared}{h1:Heap}{C:Addr}{m:Str->Option Value}(c:CompOkC X N tgs frs ix scope cl xc)(I:Inv X pins σ H s2)(hf:∀b∈fp,oD X pins H b)(hfl:∀b∈fp,b<s2.heap.objs.size)
  (hC:s2.heap.objs.size<=C) (hns:h1.Ns C m) (hk:∀b o,s2.heap.get? b=some o->h1.get? b=some o) (hcel:h1.IsCell (C+1) none){pins':List (Addr×Obj)}
  (hpin:∀p∈pins',h1.get? p.1=some p.2/\s2.heap.objs.size<=p.1/\p.1≠C/\∀v,p.2.data≠.cell v) :
  Inv (bD X N scope cl xc fp C s2 H) pins' (di tgs ix σ) H { s2 with heap:=h1,toks:=tk }:=by
 have hcn:∀x a,cl.lookup x=some a->X.env.cells.lookup x=some a:=c.cls.get
 have clt:∀x a,cl.lookup x=some a->a<s2.heap.objs.size:=λx a e=>by
  obtain⟨v,q⟩:=I.cell x a (hcn x a e);exact q.lt
 have hcl2:∀x a,((xc,C+1)::cl).lookup x=some a->(x=xc/\a=C+1)\/(X.env.cells.lookup x=some a/\a<s2.heap.objs.size):=λx a e=>by
  rcases jG e with h|⟨_,h⟩
  ·exact .inl h
  ·exact .inr ⟨hcn x a h,clt x a h⟩
 have hC1:s2.heap.objs.size<=C+1:=Nq hC;refine⟨⟨I.ok.mod,c.kind,I.ok.glob,I.ok.blt,hC,λx y a h1 h2=>by
   rcases hcl2 x a h1 with⟨e1,e2⟩|⟨e1,e2⟩
   ·rcases hcl2 y a h2 with⟨g1,g2⟩|⟨g1,g2⟩
    ·rw[e1,g1]
    ·exact absurd g2 (by rw[e2];exact Kv hC1)
   ·rcases hcl2 y a h2 with⟨g1,g2⟩|⟨g1,g2⟩
    ·exact absurd e2 (by rw[g2];exact Kv hC1)
    ·exact I.ok.inj x y a e1 g1,λx hx=>c.hasOf hx,(λx a z e=>by
   rcases hcl2 x a e with⟨_,e2⟩|⟨e1,e2⟩
   ·rw[e2];exact hC1
   ·have hx:x=xc:=eq_of_beq z
    subst hx;have h9:((x,C+1)::cl).lookup x=some (C+1):=by simp
    have h8:=h9.symm.trans e;rw[<-G8 h8];exact hC1),I.ok.hd,I.ok.frames,.inl rfl,λb hb=>⟨?_,λx a e=>?_⟩,I.bs,HJ I.ok.bsz I.sz,λb o e hb=>?_,λb hb z=>?_,I.stack,I.stkFree⟩,
  rfl,I.bare,Un.kept hk,⟨m,hns,λi x v e1 e2 e3=>?_⟩,λx a e=>?_,I.hok.fresh hC,λx a e=>by
   rcases hcl2 x a e with⟨_,e2⟩|⟨e1,e2⟩
   ·rw[e2];exact I.hok.fresh hC1
   ·exact I.freeC x a e1,λp hp=>?_,I.hok.kept hk,?_⟩
 ·exact GV (G0 (hfl b hb) hC)
 ·rcases hcl2 x a e with⟨_,e2⟩|⟨e1,e2⟩
  ·rw[e2];exact Ho (G0 (hfl b hb) hC1)
  ·exact(hf b hb).2.2.2.2.1 x a e1
 ·rcases(hf b hb).2.2.2.1 with z|z
  ·exact I.ok.noex b o e z
  ·exact absurd (G0 (GK (I.ok.bs b o e).1) z) (Hw _)
 ·rcases GW.mp (I.stkSub b z)with e|e
  ·exact(hf b hb).2.1 e
  ·exact(hf b hb).2.2.1 e
 ·obtain⟨hx,j,n1,n2⟩:=oX c.nm c.ixs e1 e2
  obtain⟨k1,k2,a,l1,l2⟩:=c.fr.mem x hx;obtain⟨m',_,hl⟩:=I.loc;obtain⟨u,r,l⟩:=hl j x v n1 n2 (.inr (.inl k1));refine⟨u,r,.inr ⟨.inl k2,a,(by
   have hne:x≠xc:=λe=>c.nx (e▸hx)
   show((xc,C+1)::cl).lookup x=some a
   rw[Jk,beq_false_of_ne hne];exact l1),?_⟩⟩
  rcases l with⟨l,_⟩|⟨_,a',l3,o,l4,l5⟩
  ·rw[k1]at l;cases l
  ·rw[l2]at l3;cases l3
   exact⟨o,hk _ _ l4,l5⟩
 ·rcases hcl2 x a e with⟨_,e2⟩|⟨e1,e2⟩
  ·rw[e2];exact⟨none,hcel⟩
  ·obtain⟨v,o,q1,q2⟩:=I.cell x a e1
   exact⟨v,o,hk _ _ q1,q2⟩
 ·have hp':p∈pins':=by simpa [bD]using hp
  obtain⟨q1,q2,q3,q4⟩:=hpin p hp';exact⟨q1,I.hok.fresh q2,q3,λz=>by
   rcases GW.mp (I.stkSub p.1 z)with e|e
   ·exact absurd (G0 I.lt q2) (by rw[e];exact Hw _)
   ·exact I.nofs q2 e,q4⟩
 ·show(di tgs ix σ).length=N.length
  unfold di;have e:=congrArg Jz c.ixs;simp only[GA]at e;rw[c.nm];simp[e]
theorem wS{te:TE}(c:CompOkC X N tgs frs ix scope cl xc)(hc:X.calm=true)(hi:PI X tg iter wi)
  (hg:∀fp C s H,PG (bD X N scope cl xc fp C s H) tg g) (he:∀fp C s H,PE (bD X N scope cl xc fp C s H) elt te)
  (hs:∀x,Qa iter X.env x=pure x:=by intro _;rfl) :
  PE X (.ListComp elt [⟨tg,iter,[],0⟩] scope pos) (oM wi g te tgs ix):=by
 intro pins s σ H Q I h;rw[eval_ListComp];refine Qi (use:=none) rfl hs c.clos c.kind c.names (thn (hi pins s σ H _ I h) λxv s1 h1=>thn h1 λitv s2 h2=>?_);obtain⟨it,fp,tn,J,H2,rfl,I2,T,st2,f2,W,⟨m0,w0⟩,turn⟩:=h2;have hfl:∀b∈fp,b<s2.heap.objs.size:=λb hb=>by
  obtain⟨o,e,_⟩:=T.obj _ _ st2 b hb;exact GK e
 have hcn:∀x a,cl.lookup x=some a->X.env.cells.lookup x=some a:=c.cls.get
 refine P5 (rq c.cells c.push ?_);dsimp only;generalize hH2:s2.heap.push { cls:=.type "list",dict:=none,data:=.seq ([]:List Value).toArray }=G2;have hC:G2.objs.size=s2.heap.objs.size+1:=by rw[<-hH2,IR]
 have hns0:((G2.push { cls:=.type "dict",data:=.dict #[] }).push { cls:=.type "cell",data:=.cell none }).Ns G2.objs.size (λ_=>none):=(Heap.Ns.new G2 (.type "dict")).keeps λb o e=>GD _ e
 have hcel0:((G2.push { cls:=.type "dict",data:=.dict #[] }).push { cls:=.type "cell",data:=.cell none }).IsCell (G2.objs.size+1) none:=by
  have:=GT (G2.push { cls:=.type "dict",data:=.dict #[] }) (o:={ cls:=.type "cell",data:=.cell none }) rfl;rw[IR]at this;exact⟨_,this,rfl⟩
 have old:∀b o,s2.heap.get? b=some o->((G2.push { cls:=.type "dict",data:=.dict #[] }).push { cls:=.type "cell",data:=.cell none }).get? b=some o:=λb o e=>GD _ (GD _ (hH2▸GD _ e))
 have hacc0:((G2.push { cls:=.type "dict",data:=.dict #[] }).push { cls:=.type "cell",data:=.cell none }).get? s2.heap.objs.size=some (aB [] 0):=GD _ (GD _ (hH2▸GT _ rfl));show codeAny (model X.prog X.w) X.A (.compStart (.ListComp elt [⟨tg,iter,[],0⟩] scope pos) 0 (.ref it) (.ref s2.heap.objs.size) (compEnvC scope ((xc,G2.objs.size+1)::cl) G2.objs.size X.env)) (compPost (model X.prog X.w) X.A X.xe none (EP X pins σ Q) (.ref s2.heap.objs.size) G2.objs.size) { s2 with heap:=(G2.push { cls:=.type "dict",data:=.dict #[] }).push { cls:=.type "cell",data:=.cell none } }
 generalize (G2.push { cls:=.type "dict",data:=.dict #[] }).push { cls:=.type "cell",data:=.cell none }=h1 at hns0 hcel0 old hacc0 ⊢;generalize hCC:G2.objs.size=C at *;generalize hDD:s2.heap.objs.size=D at *;have hDC:D≠C:=by lia
 have hCle:D<=C:=by lia
 have hns1:=hns0;have hacc:=hacc0;have cellD:∀x a,X.env.cells.lookup x=some a->a<D:=λx a e=>by
  obtain⟨v,q⟩:=I2.cell x a e;exact hDD▸q.lt
 have fpc:∀{H':Hp}{us:List Value}{k:Nat},(∀b∈fp,H' b=none)->∀b∈fp,oD (bD X N scope cl xc fp C s2 H2) [(D,aB us k)] H' b:=λ{H' us k} hn b hb=>by
  have lb:=hfl b hb;refine⟨hn b hb,?_,λz=>?_,.inl hb,λx a e z=>?_,λp hp=>?_⟩
  ·exact GV (G0 lb hCle)
  ·rcases GW.mp (I2.stkSub b z)with e|e
   ·exact(f2 b hb).2.1 e
   ·exact(f2 b hb).2.2.1 e
  ·rcases jG e with⟨_,e2⟩|⟨_,e1⟩
   ·exact absurd z (by rw[e2];exact Ho (G0 lb (Nq hCle)))
   ·exact(f2 b hb).2.2.2.2.1 x a (hcn x a e1) z
  ·have:p=(D,aB us k):=by simpa [bD]using hp
   rw[this];exact Ho lb
 have D_fs:D∉(bD X N scope cl xc fp C s2 H2).fs:=λz=>by
  rcases GW.mp (I2.stkSub D z)with e|e
  ·exact absurd I2.lt (by rw[<-e,hDD];exact Hw _)
  ·exact I2.nofs (HR hDD) e
 have I3:=tU (tk:=s2.toks) (pins':=[(D,aB [] 0)]) c I2 f2 (λb hb=>hDD▸hfl b hb) (hDD▸hCle:s2.heap.objs.size<=C) hns1 old hcel0 (λp hp=>by
  have e:p=(D,aB [] 0):=by simpa using hp
  subst e;exact⟨hacc,HR hDD,hDC,λv z=>by cases z⟩)
 have tn3:tn 0 h1:=T.keep _ _ _ st2 λb _ o e=>old b o e
 have loop:codeAny (model X.prog X.w) X.A (.compLoop (.ListComp elt [⟨tg,iter,[],0⟩] scope pos) 0 (.ref it) (.ref D) (compEnvC scope ((xc,C+1)::cl) C X.env))
   (compPost (model X.prog X.w) X.A X.xe none (EP X pins σ Q) (.ref D) C) { s2 with heap:=h1,toks:=s2.toks }:=by
  refine fc (λn s'=>∃i xs us k σc H',Inv (bD X N scope cl xc fp C s2 H2) [(D,aB us k)] σc H' s'/\tn i s'.heap/\(∀b∈fp,H' b=none)/\Vals xs us/\W i n xs σc H') ?_ m0
   ⟨0,[],[],0,_,H2,I3,tn3,λb hb=>(f2 b hb).1,.nil,w0⟩
  rintro n s4 ⟨i,xs,us,k,σ4,H4,I4,tn4,fr4,rv,w4⟩;obtain⟨hsz,tt⟩:=turn i n xs σ4 H4 w4;rcases tt with⟨stop,fin⟩|⟨go,step⟩
  ·refine thn (T.done (bD X N scope cl xc fp C s2 H2) rfl rfl rfl hc i _ s4 σ4 H4 _ I4 (fpc fr4) tn4 stop) λr s5 ⟨hr,I5⟩=>?_
   subst hr;obtain⟨m,ns,_⟩:=I5.loc;refine⟨m,ns,λh' sb=>?_⟩;have J1:Inv X pins σ H4 s5:=I2.call' I5.os I5.base I5.hok I5.bare λb hb=>⟨(f2 b hb).2.2.2.1,(f2 b hb).2.1,(f2 b hb).2.2.2.2.1,(f2 b hb).2.2.2.2.2⟩
   have big:∀a,D<=a->a≠X.env.locals/\(a∈X.ex\/X.s₀.heap.objs.size<=a)/\(∀x y,X.env.cells.lookup x=some y->y≠a)/\∀p∈X.pn++pins,p.1≠a:=λa ha=>by
    obtain⟨q0,q1,q2,q3,q4,q5⟩:=I2.fpOk (b:=a) (H':=λ_=>none) (hDD▸ha) rfl;exact⟨q1,q3,q4,q5⟩
   obtain⟨b1,b2,b3,b4⟩:=big C hCle;have J2:Inv X pins σ H4 { s5 with heap:=h' }:=J1.turned (t':=s5.toks) (λb o hb e=>sb.extBut b o hb e) I5.free b1 b2 b3 b4;obtain⟨p1,p2,p3,p4,p5⟩:=I5.pin (D,aB us k) (by simp);obtain⟨d1,d2,d3,d4⟩:=big D (GF _);have J3:Inv X pins σ (upd H4 D (.lst xs)) { s5 with heap:=h' }:=J2.adopt p2 d1 d2 d3 d4 ⟨HK hsz,us,k,rv,sb.extBut _ _ hDC p1⟩;exact⟨.ref D,_,J3,rfl,fin D p2⟩
  ·refine thn (T.item (bD X N scope cl xc fp C s2 H2) rfl rfl rfl hc i _ s4 σ4 H4 _ I4 (fpc fr4) tn4 go) λr s5 ⟨u,hr,h5⟩=>?_
   subst hr;refine thn h5 λ_ s6 ⟨x,H6,I6,r6,y6,tn6,fr6⟩=>?_
   have I6':=I6.pinned (fpc fr6) (T.obj _ _ tn6);refine thn (hg fp C s2 H2 _ s6 σ4 H6 x u _ I6' r6 (step x H6 y6)) λ_ s7 ⟨σ7,H7,I7,q7⟩=>?_
   refine thn (he fp C s2 H2 _ s7 σ7 H7 _ I7 q7) λyv s8 ⟨y,H8,I8,r8,m',hm,w8⟩=>?_
   obtain⟨p1,p2,p3,p4,p5⟩:=I8.pin (D,aB us k) (by simp[bD]);have hsz':us.toArray.size<=P4:=by simp;rw[<-rv.length];exact HK hsz
   refine Ql (hsz:=hsz') ⟨k,p1⟩ λh' pl sb=>?_
   have tn8:tn (i+1) s8.heap:=T.keep _ _ _ tn6 λb hb o e=>(I8.pin (b,o) (GG _ (GG _ (aM hb e)))).1
   have fr8:∀b∈fp,H8 b=none:=λb hb=>by
    obtain⟨o,e,d⟩:=T.obj _ _ tn6 b hb;exact(I8.pin (b,o) (GG _ (GG _ (aM hb e)))).2.1
   have I9:Inv (bD X N scope cl xc fp C s2 H2) [] σ7 H8 s8:=I8.pins_of λp hp=>nomatch hp
   have I10:Inv (bD X N scope cl xc fp C s2 H2) [] σ7 H8 { s8 with heap:=h' }:=I9.turned (t':=s8.toks) (it:=D) (λb o hb e=>sb.extBut b o hb e) p2 p3 (.inr (HR hDD))
    (λx a e=>by
     rcases jG e with⟨_,e2⟩|⟨_,e1⟩
     ·rw[e2];exact Ho (Nat.lt_succ_of_le hCle)
     ·exact GV (cellD x a (hcn x a e1))) (λp hp=>by simp[bD]at hp)
   obtain⟨k',pl⟩:=pl;have eu:us.toArray.push yv=(us++[yv]).toArray:=by simp
   rw[eu]at pl;have I11:Inv (bD X N scope cl xc fp C s2 H2) [(D,aB (us++[yv]) k')] σ7 H8 { s8 with heap:=h' }:=I10.pins_of λp hp=>by
    have e:p=(D,aB (us++[yv]) k'):=by simpa using hp
    subst e;exact⟨pl,p2,p3,p4,λv z=>by cases z⟩
   exact⟨m',hm,i+1,xs++[y],us++[yv],k',σ7,H8,I11,T.keep _ _ _ tn8 λb hb o e=>sb.extBut b o (GV (hfl b hb)) e,fr8,rv.append (.cons r8 .nil),w8⟩
 exact Qq loop (T.self _ 0 _ _ _ tn3 loop)
theorem wT{te:TE}(c:CompOkC X N tgs frs ix scope cl xc)(hc:X.calm=true)(hi:QI X tg iter wi)
  (hg:∀fp C s H,QG (bD X N scope cl xc fp C s H) tg g) (he:∀fp C s H,QE (bD X N scope cl xc fp C s H) elt te)
  (hs:∀x,Qa iter X.env x=pure x:=by intro _;rfl) :
  QE X (.ListComp elt [⟨tg,iter,[],0⟩] scope pos) (oM wi g te tgs ix):=⟨wS c hc hi.out (λfp C s H=>(hg fp C s H).out) (λfp C s H=>(he fp C s H).out) hs⟩
end
section
variable{X:Cx}{e o b:Expr}{to tb te:TE}{pos tpos:Pos}
def B7(K:GC):V->V->Hp->VK->Prop:=λo i H Q=>∃a xs k v,o=.ref a/\i=.int k/\SqL K H a xs/\0<=k/\xs[k.toNat]? = some v/\Q v H
theorem wU:DL X (B7 X.K):=by
 intro pins s σ H o i ov iv Q I ro ri h;obtain⟨a,xs,k,v,rfl,rfl,hq,h0,hv,q⟩:=h;cases ro;obtain⟨t,rfl⟩:=ri;obtain⟨its,r,pl,hz⟩:=I.list hq;obtain⟨w,ew,rw'⟩:=r.get hv;have hl:=aI hv;have hn:=gC;exact wpAny_getItem_list pl.isList h0 ⋯ (by simpa using ew) ⟨v,H,I,rw',q⟩
theorem qj{K:GC}(ho:QE X o to)(hi:QE X b tb)(he:QE X e te)(ha:∀ov iv new,augStore b ov iv new=(do Qo [new,ov,iv] (setItem ov iv new);release [new,ov,iv] [];pure .next):=by intros;rfl)(hK:X.K=K:=by rfl):
  QS X (.AugAssign (.Subscript o b tpos) .Add e pos) (wm to tb te (B7 K) (ipI λi j=>i+j) rf):=by subst hK;exact⟨sv ho.out hi.out wU he.out yg lw ha⟩
end
section
variable{K:GC}{σ:St}{H:Hp}{Q:VK}{D:Ends}
theorem Ez{te:TE}{tget:V->V->Hp->VK->Prop}{tip:TIp}{tset:zb}(h:to σ H λo H1=>ti σ H1 λi H2=>tget o i H2 λx H3=>te σ H3 λy H4=>tip x y H4 λz H5=>tset o i z H5 λH6=>D.nx σ H6):wm to ti te tget tip tset D σ H:=h
theorem FD{r:V->List V->Hp->VK->Prop}{T:String}(h:to σ H λx H1=>tyV K T x H1/\r x [] H1 Q):D7 K T r to σ H Q:=h
theorem Dp {te:TE}{tgs:List Str}(h:wi σ H λJ H1=>
 ∃W:Nat->Nat->List V->St->Hp->Prop,(∃m,W 0 m [] (di tgs ix σ) H1)/\∀i m xs σc H,W i m xs σc H->xs.length<P4/\
  ((J.stop i H/\∀p,H p=none->Q (.ref p) (upd H p (.lst xs)))\/(J.go i H/\∀x H',J.yld i H x H'->g x σc H' λσ2 H2=>tc σ2 H2 λb H3=>if b=true then te σ2 H3 λy H4=>∃m',m'<m/\W (i+1) m' (xs++[y]) σ2 H4 else ∃m',m'<m/\W (i+1) m' xs σ2 H3))):nh wi g tc te tgs ix σ H Q:=h
theorem tV{te:TE}{σ0:St}{R:List V->Hp->Prop}{vs:List V}(Pv:Nat->List V->St->Hp->Prop)(hz:vs.length<P4)(hl:∀i ys σ H,Pv i ys σ H->ys.length<=i)(ht:∀i ys σ H,Pv i ys σ H->SqL K H a vs)(h0:Pv 0 [] σ0 H)
  (hs:∀i ys σ H x,vs[i]? = some x->Pv i ys σ H->g x σ H λσ2 H2=>tc σ2 H2 λb H3=>if b=true then te σ2 H3 λy H4=>Nx vs.length i (Pv (i+1) (ys++[y]) σ2 H4)else Nx vs.length i (Pv (i+1) ys σ2 H3)) (hd:∀ys σ H,Pv vs.length ys σ H->R ys H) :
  ∃W:Nat->Nat->List V->St->Hp->Prop,(∃m,W 0 m [] σ0 H)/\∀i m xs σc H,W i m xs σc H->xs.length<P4/\
  (((Itl K a).stop i H/\R xs H)\/((Itl K a).go i H/\∀x H',(Itl K a).yld i H x H'->g x σc H' λσ2 H2=>tc σ2 H2 λb H3=>if b=true then te σ2 H3 λy H4=>∃m',m'<m/\W (i+1) m' (xs++[y]) σ2 H4 else ∃m',m'<m/\W (i+1) m' xs σ2 H3)):=by
 refine⟨λi m xs σ H=>m=vs.length - i/\i<=vs.length/\Pv i xs σ H,⟨vs.length,by simp,GR _,h0⟩,?_⟩;rintro i m xs σ H ⟨rfl,hi,p⟩;have q:=ht i xs σ H p;refine⟨HI (HJ (hl i xs σ H p) hi) hz,?_⟩;by_cases hlt:i<vs.length
 ·refine .inr ⟨⟨vs,vs[i],q,by simp[hlt]⟩,λx H' y=>?_⟩
  obtain⟨e,y⟩:=y;subst e;exact hs i xs σ _ x (y vs q) p
 ·have e:i=vs.length:=by lia
  subst e;exact .inl ⟨⟨vs,q,GF _⟩,hd xs σ H p⟩
end
noncomputable def cnt(os:List Nat)(b:Nat):List Nat:=(GH b).map λf=>os.count f
theorem bt(os:List Nat)(b:Nat):(cnt os b).length=b:=by simp[cnt]
theorem gb{os:List Nat}(h:f<b):(cnt os b)[f]? = some (os.count f):=by
 unfold cnt;rw[GE,Hu h];rfl
theorem wV{os:List Nat}{x:Nat}(h:x<b):(cnt os b).set x (os.count x+1)=cnt (os++[x]) b:=by
 apply List.ext_getElem?;intro i;rw[Kl];by_cases hi:i<b
 ·rw[gb hi,gb hi,IK,bt]
  by_cases e:x=i
  ·subst e;rw[if_pos rfl,if_pos h];simp
  ·rw[if_neg e]
   have:Pi i [x]=0:=ID.mpr (by simp;exact λz=>e z.symm);rw[this,OU]
 ·rw[JH (l:=cnt os b) (by rw[bt];lia),JH (l:=cnt (os++[x]) b) (by rw[bt];lia)]
  split
  ·split
   ·rename_i h1 h2;rw[bt]at h2;lia
   ·rfl
  ·rfl
noncomputable def bS(rss:List (List Nat))(c:Nat):List Nat:=rss.map λr=>r.getD c 0
noncomputable def bI(rss:List (List Nat))(w b:Nat):List (List Nat):=(GH (if rss=[]then 0 else w)).map λc=>cnt (bS rss c) b
theorem jH(rss:List (List Nat))(w b:Nat):(bI rss w b).length=if rss=[]then 0 else w:=by simp[bI]
theorem rA{w:Nat}(h:i<if rss=[]then 0 else w):(bI rss w b).take (i+1)=(bI rss w b).take i++[cnt (bS rss i) b]:=by
 rw[GS];unfold bI;rw[GE,Hu h];rfl
theorem tW(os:List Nat)(w:Nat)(h:w<=os.length):kU (NV os) none (some (w:Int))=NV (os.take w):=by
 unfold kU;rw[HT.fZ,HT.pX,aw,Jw h,Ht,LP];unfold NV;rw[Kr]
theorem B8(m:Nat):Ia ((m:Int) - 1) (-1) (-1)=m:=by
 unfold Ia;rw[if_neg (by decide)];split
 ·rw[show(-(-1):Int)=1 by decide,ON];lia
 ·lia
theorem B9(h:m<=1000):Jp ((m:Int) - 1) (-1) (-1)=true:=by
 unfold Jp;rw[B8];simp only[JL,Iq,Mm,decide_eq_true_eq,beq_iff_eq,show ¬((-1:Int) > 0)by decide,if_false];refine⟨?_,?_⟩<;>first|lia|(refine⟨?_,?_⟩<;>first|lia|(split<;>lia))|(split<;>lia)|trace_state
def Itd(m:Nat):It:=⟨λi _=>i<m,λi H x H'=>H'=H/\x=.int ((m - 1 - i:Nat):Int),λi _=>m<=i⟩
theorem oY{w:World}{K:GC}(it:Addr)(m:Nat):Turn P w K tg (Itd m) [it] it (λi h=>IsRangeIter h it (((m:Int) - 1)+(i:Nat)*(-1)) ((m:Int) - (i:Nat)) (-1)) where
 mem:=by simp
 obj:=λi h st b hb=>by
  have e:b=it:=by simpa using hb
  subst e;exact⟨_,st,λv z=>by
   have z':Nw _=N9 v:=z;cases z'⟩
 keep:=λi h h' st k=>k it (by simp) _ st
 item:=by
  intro X hP hw hK hc i pins s σ H E I hf st hg;subst hP hw hK;obtain⟨f0,f1,f2,f3,f4,f5⟩:=hf it (by simp);have hi:i<m:=hg;have W:=Ny (prog:=X.prog) (w:=X.w) (I.ok.hd hc) it ((m:Int) - 1) (-1) m;refine W.item i s _ _ hg st λv h' tk hv st' kk=>?_
  obtain⟨t,rfl⟩:=hv;have I1:Inv X pins σ H { s with heap:=h',toks:=tk }:=I.turned (λb o hb e=>kk b o (by simpa using hb) e) f0 f1 f3 f4 f5;refine⟨_,rfl,qU (s:={ s with heap:=h',toks:=tk }) (n:="range_iterator") st' rfl rfl (by decide) ⟨.int ((m - 1 - i:Nat):Int),H,I1,⟨t,?_⟩,⟨rfl,rfl⟩,st',λb hb=>(hf b hb).1⟩⟩;congr 1;lia
 done:=by
  intro X hP hw hK hc i pins s σ H E I hf st hg;subst hP hw hK;obtain⟨f0,f1,f2,f3,f4,f5⟩:=hf it (by simp);exact wpAny_pyNext_range_end (I.ok.hd hc) st (by have:m<=i:=hg;lia) λh' eb=>⟨rfl,I.turned (t':=s.toks) (λb o hb e=>eb b o hb e) f0 f1 f3 f4 f5⟩
 self:=λ_ _ _ _ _ st h=>wpAny_pyIter_rangeiter st h
section
variable{X:Cx}{tg a b c:Expr}{t:TA}{p pos:Pos}
def Ca(t:TA):TI:=λσ H R=>t σ H λvs H1=>∃m:Nat,vs=[.int ((m:Int) - 1),.int (-1),.int (-1)]/\m<=1000/\R (Itd m) H1
theorem jI (hg:Gl X "range") (hm:X.mg "range" = none) (ha:QA X [a,b,c] t) (hn:bQ a=true:=by rfl) (hn2:bQ b=true:=by rfl) (hn3:bQ c=true:=by rfl):QI X tg (.Call (.Name "range" p) [a,b,c] [] pos) (Ca t):=by
 refine⟨λpins s σ H R I h=>?_⟩;have e3:starEach [c] X.env=[(false,eval c X.env)]:=aC hn3;have e2:starEach [b,c] X.env=[(false,eval b X.env),(false,eval c X.env)]:=by rw[aC hn2,e3]
 refine Call_ (dh I hg hm boot_range (Hz (thn (ha.out pos pins s σ H _ I h) λus s1 ⟨vs,H1,I1,r1,q1⟩=>?_) (aC hn) (by rw[e2];rfl)));obtain⟨m,e,hm1,q⟩:=q1;subst e;cases r1 with
 | cons r rr=>
  cases rr with
  | cons r' rr=>
   cases rr with
   | cons r'' rr=>
    cases rr;obtain⟨t1,rfl⟩:=r;obtain⟨t2,rfl⟩:=r';obtain⟨t3,rfl⟩:=r'';refine call_range_3 (by decide) ?_ (.inl (JY (by decide +kernel)));refine wpAny_pyIter_range (Mr ..) (B9 hm1) ?_;have I2:Inv X pins σ H1 { s1 with heap:=s1.heap.push { cls:=.type "range",data:=.fields #[.int ((m:Int) - 1) t1,.int (-1) t2,.int (-1) t3] },toks:=s1.toks }:=I1.kept λb o e=>GD _ e
    refine⟨_,[(s1.heap.push { cls:=.type "range",data:=.fields #[.int ((m:Int) - 1) t1,.int (-1) t2,.int (-1) t3] }).objs.size],_,_,H1,rfl,I2.kept (t':=s1.toks) λb o e=>GD _ e,oY _ m,?_,λb hb=>?_,q⟩
    ·show IsRangeIter _ _ (((m:Int) - 1)+((0:Nat):Int)*(-1)) ((m:Int) - ((0:Nat):Int)) (-1)
     have g1:((m:Int) - 1)+((0:Nat):Int)*(-1)=(m:Int) - 1:=by simp
     have g2:(m:Int) - ((0:Nat):Int)=Ia ((m:Int) - 1) (-1) (-1):=by rw[B8];simp
     rw[g1,g2];exact GT _ rfl
    ·have e:b=(s1.heap.push { cls:=.type "range",data:=.fields #[.int ((m:Int) - 1) t1,.int (-1) t2,.int (-1) t3] }).objs.size:=by simpa using hb
     subst e;exact I2.fpOk (GF _) (I2.hok.fresh (GF _))
end
theorem EA{H:Hp}{t:TA}{R:It->Hp->Prop}(h:t σ H λvs H1=>∃m:Nat,vs=[.int ((m:Int) - 1),.int (-1),.int (-1)]/\m<=1000/\R (Itd m) H1):Ca t σ H R:=h
section
variable{prog:Program}{w:World}{A:Around}{E:Value->Shared->Prop}{s:Shared}
end
section
variable{X:Cx}{a b:Expr}{t:TA}{p pos tpos:Pos}{ts:List Expr}{k:Nat}
end
section
variable{X:Cx}{N tgs frs:List Str}{ix:List Nat}{scope:Scope}{cl:List (Str×Addr)}
theorem zK{y:Str}{iy:Nat}{te:TE}(hN:X.N.Nodup)(hy:X.N[iy]? = some y)(hx:Loc X.env.scope y)(c:CompOk X N tgs frs ix scope cl)(hc:X.calm=true)(hi:PI X tg iter wi)
  (hg:∀fp C s H,PG (av X N scope cl fp C s H) tg g) (he:∀fp C s H,PE (av X N scope cl fp C s H) elt te)
  (hcd:∀fp C s H,PT (av X N scope cl fp C s H) cnd tc)
  (hs:∀x,Qa iter X.env x=pure x:=by intro _;rfl)
  (hsw:QL (.ListComp elt [⟨tg,iter,[cnd],0⟩] scope pos) (some (.Name y py)) spos.line X.env=pure true:=by rfl)
  (hf:X.fn y=true\/X.env.scope.names.lookup y=some .local:=by first|exact .inl rfl|exact .inr rfl|assumption) :
  PS X (.Assign [.Name y py] (.ListComp elt [⟨tg,iter,[cnd],0⟩] scope pos) spos) (sr (nh wi g tc te tgs ix) (gB iy)):=by
 intro pins s σ H Dn I h;rw[exec_Assign_Name_used _ _ _ _ hsw];refine P2 (Qr (P2 ?_));show wpAny _ X.A (do let _ <-comprehension (.ListComp elt [⟨tg,iter,[cnd],0⟩] scope pos) scope X.env _ (newList []) false (eval iter X.env) (some (assign (.Name y py) X.env))) _ _ s
 refine P2 (P8 (Qi (use:=some (assign (.Name y py) X.env)) (Q:=λ_ s'=>SP X pins Dn .next s') rfl hs c.clos c.kind c.names (thn (hi pins s σ H _ I h) λxv s1 h1=>thn h1 λitv s2 h2=>?_)) (λ_ s' hq=>P3 (P3 hq)) λ_ _ e=>e);obtain⟨it,fp,tn,J,H2,rfl,I2,T,st2,f2,W,⟨m0,w0⟩,turn⟩:=h2;have hfl:∀b∈fp,b<s2.heap.objs.size:=λb hb=>by
  obtain⟨o,e,_⟩:=T.obj _ _ st2 b hb;exact GK e
 have hcn:∀x a,cl.lookup x=some a->X.env.cells.lookup x=some a:=c.cls.get
 refine P5 (Qz c.cell (by intro y hy;simp at hy) (λh1 hns1 hsb1=>?_) c.kind);dsimp only at hns1 hsb1 ⊢;generalize hH2:s2.heap.push { cls:=.type "list",dict:=none,data:=.seq ([]:List Value).toArray }=G2 at hns1 hsb1 ⊢;have hC:G2.objs.size=s2.heap.objs.size+1:=by rw[<-hH2,IR]
 generalize hCC:G2.objs.size=C at *;generalize hDD:s2.heap.objs.size=D at *;have hDC:D≠C:=by lia
 have hCle:D<=C:=by lia
 have old:∀b o,s2.heap.get? b=some o->h1.get? b=some o:=λb o e=>by
  have lt:b<s2.heap.objs.size:=GK e;exact hsb1.extBut b o (GV (G0 (hDD▸lt) hCle)) (GD _ (hH2▸GD _ e))
 have hacc:h1.get? D=some (aB [] 0):=hsb1.extBut _ _ hDC (GD _ (hH2▸(hDD▸GT _ rfl)));have cellD:∀x a,X.env.cells.lookup x=some a->a<D:=λx a e=>by
  obtain⟨v,q⟩:=I2.cell x a e;exact hDD▸q.lt
 have fpc:∀{H':Hp}{us:List Value}{k:Nat},(∀b∈fp,H' b=none)->∀b∈fp,oD (av X N scope cl fp C s2 H2) [(D,aB us k)] H' b:=λ{H' us k} hn b hb=>by
  have lb:=hfl b hb;refine⟨hn b hb,?_,λz=>?_,.inl hb,λx a e z=>?_,λp hp=>?_⟩
  ·exact GV (G0 lb hCle)
  ·rcases GW.mp (I2.stkSub b z)with e|e
   ·exact(f2 b hb).2.1 e
   ·exact(f2 b hb).2.2.1 e
  ·exact(f2 b hb).2.2.2.2.1 x a (hcn x a e) z
  ·have:p=(D,aB us k):=by simpa [av]using hp
   rw[this];exact Ho lb
 have D_fs:D∉(av X N scope cl fp C s2 H2).fs:=λz=>by
  rcases GW.mp (I2.stkSub D z)with e|e
  ·exact absurd I2.lt (by rw[<-e,hDD];exact Hw _)
  ·exact I2.nofs (HR hDD) e
 have I3:=jg (tk:=s2.toks+([]:List (Str×Value)).length) (pins':=[(D,aB [] 0)]) c I2 f2 (λb hb=>hDD▸hfl b hb) (hDD▸hCle:s2.heap.objs.size<=C) hns1 old (λp hp=>by
  have e:p=(D,aB [] 0):=by simpa using hp
  subst e;exact⟨hacc,HR hDD,hDC,λv z=>by cases z⟩)
 have tn3:tn 0 h1:=T.keep _ _ _ st2 λb _ o e=>old b o e
 have loop:codeAny (model X.prog X.w) X.A (.compLoop (.ListComp elt [⟨tg,iter,[cnd],0⟩] scope pos) 0 (.ref it) (.ref D) (compEnvC scope cl C X.env))
   (compPost (model X.prog X.w) X.A X.xe (some (assign (.Name y py) X.env)) (λ_ s'=>SP X pins Dn .next s') (.ref D) C) { s2 with heap:=h1,toks:=s2.toks+([]:List (Str×Value)).length }:=by
  refine gN (λn s'=>∃i xs us k σc H',Inv (av X N scope cl fp C s2 H2) [(D,aB us k)] σc H' s'/\tn i s'.heap/\(∀b∈fp,H' b=none)/\Vals xs us/\W i n xs σc H') ?_ m0
   ⟨0,[],[],0,_,H2,I3,tn3,λb hb=>(f2 b hb).1,.nil,w0⟩
  rintro n s4 ⟨i,xs,us,k,σ4,H4,I4,tn4,fr4,rv,w4⟩;obtain⟨hsz,tt⟩:=turn i n xs σ4 H4 w4;rcases tt with⟨stop,fin⟩|⟨go,step⟩
  ·refine thn (T.done (av X N scope cl fp C s2 H2) rfl rfl rfl hc i _ s4 σ4 H4 _ I4 (fpc fr4) tn4 stop) λr s5 ⟨hr,I5⟩=>?_
   subst hr;obtain⟨m,ns,_⟩:=I5.loc;have J1:Inv X pins σ H4 s5:=I2.call' I5.os I5.base I5.hok I5.bare λb hb=>⟨(f2 b hb).2.2.2.1,(f2 b hb).2.1,(f2 b hb).2.2.2.2.1,(f2 b hb).2.2.2.2.2⟩
   have big:∀a,D<=a->a≠X.env.locals/\(a∈X.ex\/X.s₀.heap.objs.size<=a)/\(∀x y,X.env.cells.lookup x=some y->y≠a)/\∀p∈X.pn++pins,p.1≠a:=λa ha=>by
    obtain⟨q0,q1,q2,q3,q4,q5⟩:=I2.fpOk (b:=a) (H':=λ_=>none) (hDD▸ha) rfl;exact⟨q1,q3,q4,q5⟩
   have nfs:∀a,D<=a->a∉X.fs:=λa ha=>I2.nofs (hDD▸ha)
   obtain⟨b1,b2,b3,b4⟩:=big C hCle;obtain⟨p1,p2,p3,p4,p5⟩:=I5.pin (D,aB us k) (by simp);obtain⟨d1,d2,d3,d4⟩:=big D (GF _);have J3:Inv X pins σ (upd H4 D (.lst xs)) s5:=J1.adopt p2 d1 d2 d3 d4 ⟨HK hsz,us,k,rv,p1⟩;obtain⟨oC,esC,epC,hoC,hdC,rC⟩:=id ns;have hHC:(upd H4 D (.lst xs)) C=none:=by rw[ai (Hx hDC)];exact I5.free
   have J4:Inv X (pins++[(C,oC)]) σ (upd H4 D (.lst xs)) s5:=J3.pins_of λp hp=>by
    rcases G9.mp hp with z|z
    ·exact J3.pin p (GG _ z)
    ·have e:p=(C,oC):=by simpa using z
     subst e;exact⟨hoC,hHC,b1,nfs C hCle,λv z=>by rw[hdC]at z;cases z⟩
   show wpAny _ X.A (assign (.Name y py) X.env (.ref D)) _ _ s5
   refine wpAny_assign_Name (dW J4 hN hy hx (v:=.ref D) rfl (λs6 J5=>?_) hf);have hC6:=(J5.pin (C,oC) (GG _ (GG _ (by simp)))).1;refine⟨m,⟨oC,esC,epC,hC6,hdC,rC⟩,λh' sb=>?_⟩;have J6:Inv X pins (σ.set iy (some (.ref D))) (upd H4 D (.lst xs)) s6:=J5.unpinned;have J7:Inv X pins (σ.set iy (some (.ref D))) (upd H4 D (.lst xs)) { s6 with heap:=h' }:=J6.turned (t':=s6.toks) (λb o hb e=>sb.extBut b o hb e) hHC b1 b2 b3 b4;exact⟨_,_,J7,fin D p2⟩
  ·refine thn (T.item (av X N scope cl fp C s2 H2) rfl rfl rfl hc i _ s4 σ4 H4 _ I4 (fpc fr4) tn4 go) λr s5 ⟨u,hr,h5⟩=>?_
   subst hr;refine thn h5 λ_ s6 ⟨x,H6,I6,r6,y6,tn6,fr6⟩=>?_
   have I6':=I6.pinned (fpc fr6) (T.obj _ _ tn6);refine thn (hg fp C s2 H2 _ s6 σ4 H6 x u _ I6' r6 (step x H6 y6)) λ_ s7 ⟨σ7,H7,I7,q7⟩=>?_
   refine thn (hcd fp C s2 H2 _ s7 σ7 H7 _ I7 q7) λb s7' ⟨H7',I7',q7'⟩=>?_
   cases b with
   | false=>
    rw[if_neg (by decide)]at q7' ⊢;obtain⟨m',hm,w8⟩:=q7';have tn8:tn (i+1) s7'.heap:=T.keep _ _ _ tn6 λb hb o e=>(I7'.pin (b,o) (GG _ (GG _ (aM hb e)))).1
    have fr8:∀b∈fp,H7' b=none:=λb hb=>by
     obtain⟨o,e,d⟩:=T.obj _ _ tn6 b hb;exact(I7'.pin (b,o) (GG _ (GG _ (aM hb e)))).2.1
    exact⟨m',hm,i+1,xs,us,k,σ7,H7',I7'.unpinned,tn8,fr8,rv,w8⟩
   | true=>
    rw[if_pos rfl]at q7' ⊢;refine thn (he fp C s2 H2 _ s7' σ7 H7' _ I7' q7') λyv s8 ⟨y,H8,I8,r8,m',hm,w8⟩=>?_
    obtain⟨p1,p2,p3,p4,p5⟩:=I8.pin (D,aB us k) (by simp[av]);have hsz':us.toArray.size<=P4:=by simp;rw[<-rv.length];exact HK hsz
    refine Ql (hsz:=hsz') ⟨k,p1⟩ λh' pl sb=>?_
    have tn8:tn (i+1) s8.heap:=T.keep _ _ _ tn6 λb hb o e=>(I8.pin (b,o) (GG _ (GG _ (aM hb e)))).1
    have fr8:∀b∈fp,H8 b=none:=λb hb=>by
     obtain⟨o,e,d⟩:=T.obj _ _ tn6 b hb;exact(I8.pin (b,o) (GG _ (GG _ (aM hb e)))).2.1
    have I9:Inv (av X N scope cl fp C s2 H2) [] σ7 H8 s8:=I8.pins_of λp hp=>nomatch hp
    have I10:Inv (av X N scope cl fp C s2 H2) [] σ7 H8 { s8 with heap:=h' }:=I9.turned (t':=s8.toks) (it:=D) (λb o hb e=>sb.extBut b o hb e) p2 p3 (.inr (HR hDD))
     (λx a e=>GV (cellD x a (hcn x a e))) (λp hp=>by simp[av]at hp)
    obtain⟨k',pl⟩:=pl;have eu:us.toArray.push yv=(us++[yv]).toArray:=by simp
    rw[eu]at pl;have I11:Inv (av X N scope cl fp C s2 H2) [(D,aB (us++[yv]) k')] σ7 H8 { s8 with heap:=h' }:=I10.pins_of λp hp=>by
     have e:p=(D,aB (us++[yv]) k'):=by simpa using hp
     subst e;exact⟨pl,p2,p3,p4,λv z=>by cases z⟩
    exact⟨m',hm,i+1,xs++[y],us++[yv],k',σ7,H8,I11,T.keep _ _ _ tn8 λb hb o e=>sb.extBut b o (GV (hfl b hb)) e,fr8,rv.append (.cons r8 .nil),w8⟩
 exact Qq loop (T.self _ 0 _ _ _ tn3 loop)
theorem zL{y:Str}{te:TE}(hN:X.N.Nodup)(hy:X.N[i]? = some y)(hx:Loc X.env.scope y)(c:CompOk X N tgs frs ix scope cl)(hc:X.calm=true)(hi:QI X tg iter wi)
  (hg:∀fp C s H,QG (av X N scope cl fp C s H) tg g) (he:∀fp C s H,QE (av X N scope cl fp C s H) elt te) (hcd:∀fp C s H,QT (av X N scope cl fp C s H) cnd tc)
  (hs:∀x,Qa iter X.env x=pure x:=by intro _;rfl)
  (hsw:QL (.ListComp elt [⟨tg,iter,[cnd],0⟩] scope pos) (some (.Name y py)) spos.line X.env=pure true:=by rfl)
  (hf:X.fn y=true\/X.env.scope.names.lookup y=some .local:=by first|exact .inl rfl|exact .inr rfl|assumption) :
  QS X (.Assign [.Name y py] (.ListComp elt [⟨tg,iter,[cnd],0⟩] scope pos) spos) (sr (nh wi g tc te tgs ix) (gB i)):=
 ⟨zK hN hy hx c hc hi.out (λfp C s H=>(hg fp C s H).out) (λfp C s H=>(he fp C s H).out) (λfp C s H=>(hcd fp C s H).out) hs hsw hf⟩
end
section
variable{X:Cx}{N tgs frs:List Str}{ix:List Nat}{scope:Scope}{cl:List (Str×Addr)}{xc:Str}
end
section
variable{X:Cx}{e o:Expr}{to te:TE}{t:TA}{pos apos cpos:Pos}
end
section
variable{K:GC}{σ:St}{H:Hp}{Q:VK}{g:TG}{tc:TT}{te:TE}
theorem tX{J:It}{σ0:St}{R:List V->Hp->Prop}(Pv:Nat->List V->St->Hp->Prop)(hz:n<P4)(hl:∀i ys σ H,Pv i ys σ H->ys.length<=i)(h0:Pv 0 [] σ0 H)(hgo:∀i ys σ H,i<n->Pv i ys σ H->J.go i H)(hst:∀ys σ H,Pv n ys σ H->J.stop n H)
  (hs:∀i x ys σ H H',i<n->Pv i ys σ H->J.yld i H x H'->g x σ H' λσ2 H2=>tc σ2 H2 λb H3=>if b=true then te σ2 H3 λy H4=>Nx n i (Pv (i+1) (ys++[y]) σ2 H4)else Nx n i (Pv (i+1) ys σ2 H3)) (hd:∀ys σ H,Pv n ys σ H->R ys H) :
  ∃W:Nat->Nat->List V->St->Hp->Prop,(∃m,W 0 m [] σ0 H)/\∀i m xs σc H,W i m xs σc H->xs.length<P4/\
  ((J.stop i H/\R xs H)\/(J.go i H/\∀x H',J.yld i H x H'->g x σc H' λσ2 H2=>tc σ2 H2 λb H3=>if b=true then te σ2 H3 λy H4=>∃m',m'<m/\W (i+1) m' (xs++[y]) σ2 H4 else ∃m',m'<m/\W (i+1) m' xs σ2 H3)):=by
 refine⟨λi m xs σ H=>m=n - i/\i<=n/\Pv i xs σ H,⟨n,by simp,GR _,h0⟩,?_⟩;rintro i m xs σ H ⟨rfl,hi,p⟩;refine⟨HI (HJ (hl i xs σ H p) hi) hz,?_⟩;by_cases hlt:i<n
 ·exact .inr ⟨hgo i xs σ H hlt p,λx H' y=>hs i x xs σ H H' hlt p y⟩
 ·have e:i=n:=by lia
  subst e;exact .inl ⟨hst xs σ H p,hd xs σ H p⟩
end
section
variable{X:Cx}
end
noncomputable def nj(os:List Nat):List Nat:=os.filter λm=>decide (0<m)
noncomputable def dH(os:List Nat):Bool:=decide (1<(nj os).length)
noncomputable def bG(os:List Nat)(f:Nat):Nat:=os.countP λx=>decide (x<f)
noncomputable def tY(cs:List Nat):List Nat:=(GH cs.length).map λf=>(cs.take f).sum
noncomputable def e8(os:List Nat)(k:Nat):Nat:=bG os (os.getD k 0)+(os.take k).count (os.getD k 0)
theorem cO(os:List Nat)(f:Nat):bG os (f+1)=bG os f+os.count f:=by
 unfold bG
 induction os with
 | nil=>rfl
 | cons x xs ih=>
  rw[LQ,LQ,List.count_cons,ih];by_cases h:x<f
  ·have h1:x≠f:=by lia
   have h2:x<f+1:=by lia
   simp[h,h1,h2];lia
  ·by_cases h1:x=f
   ·subst h1;simp;lia
   ·have h2:¬x<f+1:=by lia
    simp[h,h1,h2]
theorem dI{os:List Nat}{g:Nat}(h:f<=g):bG os f<=bG os g:=by
 induction g with
 | zero=>(have:f=0:=⋯);subst this;exact GF _
 | succ g ih=>
  by_cases e:f=g+1
  ·subst e;exact GF _
  ·have:=ih ⋯
   rw[cO];lia
theorem jj(os:List Nat)(f:Nat):bG os f<=os.length:=List.countP_le_length
theorem bO(os:List Nat)(b f:Nat)(h:f<=b):((cnt os b).take f).sum=bG os f:=by
 induction f with
 | zero=>simp[bG]
 | succ f ih=>
  rw[GS,gb ⋯,IH,ih ⋯,cO];simp
theorem jk(cs:List Nat):(tY cs).length=cs.length:=by simp[tY]
theorem jl(h:f<cs.length):(tY cs)[f]? = some (cs.take f).sum:=by
 unfold tY;rw[GE,Hu h];rfl
theorem tZ(h:f<cs.length):(tY cs).take (f+1)=(tY cs).take f++[(cs.take f).sum]:=by
 rw[GS,jl h];rfl
theorem gO(os:List Nat)(f:Nat)(h:i<=j):(os.take i).count f<=(os.take j).count f:=by
 have:os.take i=(os.take j).take i:=by rw[List.take_take,Jw h]
 rw[this];exact Pf _ (No i _)
theorem cQ{os:List Nat}{k:Nat}(h:k<os.length):(os.take (k+1)).count (os.getD k 0)=(os.take k).count (os.getD k 0)+1:=by
 rw[GS,Gz h,IK];simp[GB,Gz h]
theorem gP{os:List Nat}{k:Nat}(h:k<os.length):e8 os k<bG os (os.getD k 0+1):=by
 unfold e8;rw[cO];have h1:=cQ h;have h2:=gO os (os.getD k 0) (i:=k+1) (j:=os.length) ⋯;rw[GJ (GF _)]at h2;lia
theorem oZ{os:List Nat}{k:Nat}(h:k<os.length):e8 os k<os.length:=G0 (gP h) (jj _ _)
theorem dJ{os:List Nat}(hi:i<os.length)(hj:j<os.length)(h:os.getD i 0<os.getD j 0\/os.getD i 0=os.getD j 0/\i<j):e8 os i<e8 os j:=by
 rcases h with h|⟨h,hij⟩
 ·have h1:=gP hi
  have h2:=dI (os:=os) (f:=os.getD i 0+1) (g:=os.getD j 0) h;unfold e8 at *;lia
 ·unfold e8
  rw[<-h];have h1:=cQ hi;have h2:=gO os (os.getD i 0) (i:=i+1) (j:=j) hij;lia
theorem qk{os:List Nat}(hi:i<os.length)(hj:j<os.length)(h:e8 os i=e8 os j):i=j:=by
 rcases Ij (os.getD i 0) (os.getD j 0)with g|g|g
 ·have:=dJ hi hj (.inl g);lia
 ·rcases Ij i j with q|q|q
  ·have:=dJ hi hj (.inr ⟨g,q⟩);lia
  ·exact q
  ·have:=dJ hj hi (.inr ⟨g.symm,q⟩);lia
 ·have:=dJ hj hi (.inl g);lia
theorem jJ{xs ys:List Nat}(h:xs.Nodup)(hs:∀x∈xs,x∈ys)(hl:ys.length<=xs.length):xs.Perm ys:=by
 induction xs generalizing ys with
 | nil=>cases ys with
  | nil=>exact Jh _
  | cons y r=>simp at hl
 | cons x xs ih=>
  have hx:x∈ys:=hs x (Hl ..);have hp:=List.perm_cons_erase hx;refine NT (PL x (ih (Iw.mp h).2 (λz hz=>?_) ?_)) hp.symm
  ·have:z≠x:=λe=>(Iw.mp h).1 (e▸hz)
   exact(MS this).mpr (hs z (Hn _ hz))
  ·rw[LR hx];simp at hl;lia
structure ByF (os ob:List Nat):Prop where
 len:ob.length=os.length
 at_:∀k,k<os.length->ob[e8 os k]? = some k
theorem ByF.get{os:List Nat}(h:ByF os ob){a x:Nat}(e:ob[a]? = some x):x<os.length/\a=e8 os x:=by
 -- the spots are each place once
 have hsur:∀a,a<os.length->∃k,k<os.length/\e8 os k=a:=by
  intro a ha;have hnd:((GH os.length).map (e8 os)).Nodup:=by
   rw[Ln,Hq];intro i j hi hj hij e;simp only[GA,HH]at hi hj;rw[LS,LS,Nd,Nd]at e;have:=qk hi hj e;lia
  have hsub:∀x∈(GH os.length).map (e8 os),x∈GH os.length:=λx hx=>by
   obtain⟨k,hk,rfl⟩:=GX.mp hx;exact Hj.mpr (oZ (Hj.mp hk))
  have hp:((GH os.length).map (e8 os)).Perm (GH os.length):=jJ hnd hsub (by simp);obtain⟨k,hk,e⟩:=GX.mp (hp.mem_iff.mpr (Hj.mpr ha));exact⟨k,Hj.mp hk,e⟩
 have ha:a<os.length:=by rw[<-h.len];exact aI e
 obtain⟨k,hk,rfl⟩:=hsur a ha;rw[h.at_ k hk]at e;cases e;exact⟨hk,rfl⟩
theorem ByF.ord{os:List Nat}(h:ByF os ob):Ord ob os.length:=by
 refine⟨h.len,λx hx=>?_,λi j r a b=>?_,λx hx=>⟨e8 os x,oZ hx,h.at_ x hx⟩⟩
 ·obtain⟨a,e⟩:=JO hx
  exact(h.get e).1
 ·rw[(h.get a).2,(h.get b).2]
theorem ByF.rise{os:List Nat}(h:ByF os ob):ob.Pairwise λi j=>os.getD i 0<os.getD j 0\/os.getD i 0=os.getD j 0/\i<j:=by
 rw[Hq];intro a b ha hb hab;obtain⟨h1,e1⟩:=h.get (Gz ha);obtain⟨h2,e2⟩:=h.get (Gz hb);generalize ob[a]=i at *;generalize ob[b]=j at *;rcases Ij (os.getD i 0) (os.getD j 0)with g|g|g
 ·exact .inl g
 ·rcases Ij i j with q|q|q
  ·exact .inr ⟨g,q⟩
  ·subst q;lia
  ·have:=dJ h2 h1 (.inr ⟨g.symm,q⟩);lia
 ·have:=dJ h2 h1 (.inl g);lia
theorem Ord.perm{os:List Nat}(h:Ord os n):os.Perm (GH n):=by
 refine jJ ?_ (λx hx=>Hj.mpr (h.lt x hx)) (by rw[HH,h.len];exact GF _);rw[Ln,Hq];intro i j hi hj hij e;have:=h.inj i j os[i] (Gz hi) (by rw[e];exact Gz hj);lia
theorem fR(xs:List Nat):(GH xs.length).map (λp=>xs.getD p 0)=xs:=by
 apply Kw (by simp);intro i h1 h2;simp[GB,Gz h2]
theorem lF{os xs:List Nat}(h:os.Perm (GH xs.length)):(os.map λp=>xs.getD p 0).Perm xs:=by
 have:=h.map (λp=>xs.getD p 0);rw[fR]at this;exact this
theorem wW{xs ys:List Nat}(h:xs.Perm ys):cnt xs b=cnt ys b:=by
 unfold cnt;apply HN;intro f _;exact h.count_eq f
theorem zM{os:List Nat}(h:∀o∈os,o<b):(cnt os b).sum=os.length:=by
 have h1:=bO os b b (GF _);rw[GJ (by rw[bt];exact GF _)]at h1;rw[h1];unfold bG;rw[List.countP_eq_length];intro o ho;simpa using h o ho
noncomputable def dn(tss:List (List Nat)):List Nat:=(GH tss.length).reverse.filter λc=>dH (tss.getD c [])
noncomputable def nk(tss:List (List Nat))(i:Nat):List Nat:=((GH tss.length).reverse.take i).filter λc=>dH (tss.getD c [])
theorem nn(tss:List (List Nat)):nk tss tss.length=dn tss:=by
 unfold nk dn;rw[GJ (by simp)]
theorem rB{tss:List (List Nat)}(h:i<tss.length):nk tss (i+1)=nk tss i++(if dH (tss.getD (tss.length - 1 - i) [])=true then[tss.length - 1 - i]else[]):=by
 unfold nk;have e:(GH tss.length).reverse[i]? = some (tss.length - 1 - i):=by
  rw[KC (by simpa using h),HH,Hu ⋯]
 rw[GS,e,Nf];congr 1;simp only[MX];split<;>simp_all
theorem nq{tss:List (List Nat)}(i:Nat):(nk tss i).length<=i:=by
 unfold nk;refine HJ (MD _ _) ?_;rw[G5];lia
theorem t5{tss:List (List Nat)}(h:c∈dn tss):c<tss.length:=by
 unfold dn at h;have:=(JT.mp h).1;simpa using this
noncomputable def yy(tss:List (List Nat)):Nat:=((dn tss).map λc=>(tss.getD c []).sum).sum
theorem gQ(ns:List Nat):(ns.map λx:Nat=>(x:Int)).sum=((ns.sum:Nat):Int):=by
 induction ns with
 | nil=>rfl
 | cons x xs ih=>simp[ih]
end L2
open L2.Nx renaming mk→PX
open L2.Same renaming refl→PV
namespace HT
open PySem PyProof.Rows
noncomputable def eZ:List Int->List Int->Bool
 | [],[]=>true
 | [],_::_=>true
 | _::_,[]=>false
 | x::xs,y::ys=>if x=y then eZ xs ys else decide (x<=y)
theorem k7(x y:Int)(xs ys:List Int):eZ (x::xs) (y::ys)=if x=y then eZ xs ys else decide (x<=y):=rfl
theorem lG:eZ [] []=true:=rfl
theorem kJ(y:Int)(ys:List Int):eZ [] (y::ys)=true:=rfl
theorem kK(x:Int)(xs:List Int):eZ (x::xs) []=false:=rfl
theorem wX(A:Around)(s:Shared)(a:Int)(t:Tok)(c:Int)(u:Tok)(prog:Program)(w:World)(E:Value->Shared->Prop)(Q:Value->Shared->Prop)(h:Q (.bool (decide (a<=c))) s):
  wpAny (model prog w) A (richCompare .LtE (.int a t) (.int c u)) Q E s:=
 (Pp h:wpAny (model prog w) A (Qc .LtE (.int a t) (.int c u)) Q E s)
section
open PySem.SeqAt
open PySem.AutoSeq1 (wpAny_loadPart')
open PySem.MeetsSeq PySem.MeetsSeq2 PySem.MeetsSeq3
theorem lH(l b:Addr)(items items2:Array Value)(n n2:Nat)(dd dd2:Option Addr)(sl sl2:Array (Option Value))(ns ms:List Int)(hi:P9 items.toList ns)(hj:P9 items2.toList ms):
  Meets (Builtin.«tuple.__le__» ⟨[.ref l,.ref b],[]⟩)
   (λ_ R s=>s.heap.get? l=some { cls:=.type "tuple",dict:=dd,data:=.seq items n,slots:=sl }/\s.heap.get? b=some { cls:=.type "tuple",dict:=dd2,data:=.seq items2 n2,slots:=sl2 }/\
    R (.ok (.ret (.bool (eZ ns ms)))) s):=
 .of_wp λprog w A R s h=>by
  obtain⟨hp,g,d,tk,os⟩:=s;obtain⟨hl,hb,h⟩:=h;have f2:=JX;have z1:items.size=ns.length:=by rw[<-hi.length];simp
  have z2:items2.size=ms.length:=by rw[<-hj.length];simp
  wp_walk using Qm hl,Qm hb,wpAny_forIn_list _ (λrest b s'=>b.1=none/\s'=⟨hp,g,d,tk,os⟩/\∃(vs ws:List Value) (ns' ms':List Int),rest=vs.zip ws/\
   P9 vs ns'/\P9 ws ms'/\ns'.length+items2.size=ms'.length+items.size/\R (.ok (.ret (.bool (eZ ns' ms')))) ⟨hp,g,d,tk,os⟩) _
  case turn=>
   rintro⟨y,x⟩ rest b s' ⟨hb',rfl,vs,ws,ns',ms',hz,hvi,hwi,hlen,hR⟩;cases hvi with
   | nil=>rw[Lu]at hz;cases hz
   | cons a t hvi'=>
    cases hwi with
    | nil=>rw[K9]at hz;cases hz
    | cons c u hwi'=>
     rw[IC]at hz;injection hz with hyx hrest
     injection hyx with hy hx
     subst hy hx;rw[k7]at hR;simp only[Hh]at hlen;obtain⟨e,he,hiff⟩:=pW A.in1 ⟨hp,g,d,tk,os⟩ a t c u;refine P2 (he prog w _ _ ?_);cases e with
     | true=>
      rw[if_pos (hiff.mp rfl)]at hR
      wp_walk
      exact⟨rfl,rfl,_,_,_,_,hrest,hvi',hwi',by lia,hR⟩
     | false=>
      rw[if_neg (λq=>absurd (hiff.mpr q) G3)]at hR;have hri:=wX A.in1 ⟨hp,g,d,tk,os⟩ a t c u prog w
      wp_walk using hri
      exact⟨_,rfl,by simpa using hR⟩
  case fin=>
   rintro⟨b1,b2⟩ s' ⟨hb',rfl,vs,ws,ns',ms',hz,hvi,hwi,hlen,hR⟩;simp only at hb';subst hb';have hv:eZ ns' ms'=decide (items.size<=items2.size):=by
    cases hvi with
    | nil=>
     cases hwi with
     | nil=>
      simp only[Ie]at hlen;rw[lG];exact(decide_eq_true ⋯).symm
     | cons c u hw=>
      simp only[Ie,Hh]at hlen;rw[kJ];exact(decide_eq_true ⋯).symm
    | cons a t hv=>
     cases hwi with
     | nil=>
      simp only[Ie,Hh]at hlen;rw[kK];exact(decide_eq_false ⋯).symm
     | cons c u hw=>
      rw[IC]at hz;cases hz
   rw[hv]at hR
   wp_walk
   exact⟨_,rfl,by simpa [KF]using hR⟩
  case h=>
   exact⟨rfl,rfl,items.toList,items2.toList,ns,ms,rfl,hi,hj,by lia,h⟩
end
section
variable{prog:Program}{w:World}{A:Around}{E:Value->Shared->Prop}{s:Shared}
theorem rD{b:Addr}{items2:Array Value}{ns:List Int}(hl:IsTup s.heap l items)(hb:IsTup s.heap b items2)(hi:P9 items.toList ns)(hj:P9 items2.toList ms)
  (hu:A.units<cLine) (h:Q (.bool (eZ ns ms)) s):wpAny (model prog w) A (Qc .LtE (.ref l) (.ref b)) Q E s:=by
 obtain⟨⟨cls,dd,data,sl⟩,ho,hc,n,hd⟩:=id hl;obtain⟨⟨cls2,dd2,data2,sl2⟩,ho2,hc2,n2,hd2⟩:=id hb;simp only at hc hd hc2 hd2;subst hc hd hc2 hd2;exact richCompare_meets_room (op:=.LtE) ⟨_,ho,rfl⟩ ⟨_,ho2,rfl⟩ PySem.F.slot_tuple_le PySem.F.entry_tuple_le (PySem.F.args_tuple_le_2 _ _) (lH l b items items2 n n2 dd dd2 sl sl2 ns ms hi hj)
  ⟨ho,ho2,show Jc (eZ ns ms)≠MQ/\Q (.bool (eZ ns ms)) s from⟨(λx=>nomatch x),h⟩⟩ hu
end
theorem nr(ns ms:List Int):eZ ns ms=!aY ms ns:=by
 induction ns generalizing ms with
 | nil=>cases ms<;>rfl
 | cons x xs ih=>
  cases ms with
  | nil=>rfl
  | cons y ys=>
   rw[k7,bb];by_cases h:x=y
   ·subst h;rw[if_pos rfl,if_pos rfl,ih]
   ·rw[if_neg h,if_neg (Hx h)]
    by_cases g:x<=y
    ·rw[decide_eq_true g,decide_eq_false ⋯];rfl
    ·rw[decide_eq_false g,decide_eq_true ⋯];rfl
end HT
namespace L2
open PySem PySem.Spec PyProof.Rows
section
variable{X:Cx}{e e2 o:Expr}{to te:TE}{t:TA}{pos apos cpos:Pos}
def EB(K:GC):R2:=λx y H Q=>∃a b ns ms,x=.ref a/\y=.ref b/\SqT K H a (ns.map PR)/\SqT K H b (ms.map PR)/\Q (.bl (HT.eZ ns ms)) H
theorem Cb(hu:X.A.units<cLine):OpR X (Qc .LtE) (EB X.K):=by
 intro pins s σ H x y v u Q I rx ry h;obtain⟨a,b,ns,ms,rfl,rfl,ha,hb,q⟩:=h;cases rx;cases ry;obtain⟨its,r1,p1,_⟩:=I.tuple ha;obtain⟨its2,r2,p2,_⟩:=I.tuple hb;have i1:P9 its.toArray.toList ns:=bF r1;have i2:P9 its2.toArray.toList ms:=bF r2;exact HT.rD p1 p2 i1 i2 hu ⟨.bl (HT.eZ ns ms),H,I,rfl,q⟩
theorem Cc{K:GC}(hu:X.A.units<cLine)(hK:X.K=K:=by rfl):QOp X (Qc .LtE) (EB K):=by subst hK;exact⟨Cb hu⟩
theorem EC{K:GC}(hK:X.K=K:=by rfl):QIx X (rIx K):=by subst hK;exact⟨BE⟩
end
theorem t6{P:PyData->Bool}{PA:List PyData->Bool}(h0:PA []=true)(h1:∀x xs,PA (x::xs)=(P x && PA xs)):∀{ds:List PyData},(∀d∈ds,P d=true)->PA ds=true
 | [],_=>h0
 | d::ds,h=>by rw[h1,h d (Hl ..),t6 h0 h1 λx hx=>h x (Hn _ hx)];rfl
theorem gc{n:Nat}:∀{ds:List PyData},(∀d∈ds,d.depth<=n)->NU ds<=n
 | [],_=>GR _
 | d::ds,h=>by
  show max d.depth (NU ds)<=n
  have h1:=h d (Hl ..);have h2:=gc (ds:=ds) λx hx=>h x (Hn _ hx)
  lia
section
variable{X:Cx}{pins:List (Addr×Obj)}{σ:St}{H:Hp}{s:Shared}
theorem gf{R:V->PyData->Prop}{h:Heap}(hR:∀x v d,R x d->RelV x v->∃as,Reads h v d as):∀{xs:List V}{its:List Value}{ds:List PyData},Vals xs its->xs.length=ds.length->(∀(i:Nat) u e,xs[i]? = some u->ds[i]? = some e->R u e)->∃as,ReadsAll h its ds as
 | _,_,[],.nil,_,_=>⟨[],.nil⟩
 | _,_,d::ds,.cons r rr,hl,hi=>by
  obtain⟨as,h1⟩:=hR _ _ d (hi 0 _ d rfl rfl) r;obtain⟨bs,h2⟩:=gf hR rr (by simpa using hl) λi u e e1 e2=>hi (i+1) u e e1 e2
  exact⟨as++bs,.cons h1 h2⟩
 | _,_,_::_,.nil,hl,_=>by simp at hl
 | _,_,[],.cons _ _,hl,_=>by simp at hl
end
section
variable{K:GC}{σ:St}{H:Hp}{Q:VK}
theorem yz{b:Addr}{ns:List Int}(h1:SqT K H a (ns.map PR))(h2:SqT K H b (ms.map PR))(h:Q (.bl (HT.eZ ns ms)) H):EB K (.ref a) (.ref b) H Q:=⟨a,b,ns,ms,rfl,rfl,h1,h2,h⟩
theorem Cd{i:Int}(s:H p=some (.lst xs)\/H p=some (.tup xs))(a:atI xs i=some v)(h:Q v H):rIx K (.ref p) (.int i) H Q:=
 s.elim (λs=>.inl (bB (PP s) a h)) (λs=>.inr (.inl (pY (PQ s) a h)))
end
noncomputable def bE(a:List Nat):List Int:=a.map λx:Nat=>(x:Int)
noncomputable def lxt(a b:List Nat):Bool:=HT.aY (bE a) (bE b)
theorem cL(x y:Nat)(a b:List Nat):lxt (x::a) (y::b)=if x=y then lxt a b else decide (x<y):=by
 unfold lxt bE;rw[Hg,Hg,HT.bb];by_cases h:x=y
 ·rw[if_pos h,if_pos (by rw[h])]
 ·rw[if_neg h,if_neg ⋯]
  exact decide_eq_decide.mpr ⋯
theorem k8(a:List Nat):lxt a a=false:=by
 induction a with
 | nil=>rfl
 | cons x a ih=>rw[cL,if_pos rfl,ih]
theorem t7{a b c:List Nat}(h1:lxt a b=true)(h2:lxt b c=true):lxt a c=true:=by
 induction a generalizing b c with
 | nil=>
  cases b with
  | nil=>cases h1
  | cons y b=>cases c with
   | nil=>cases h2
   | cons z c=>rfl
 | cons x a ih=>
  cases b with
  | nil=>cases h1
  | cons y b=>
   cases c with
   | nil=>cases h2
   | cons z c=>
    rw[cL]at h1 h2 ⊢;by_cases e1:x=y
    ·subst e1
     rw[if_pos rfl]at h1;by_cases e2:x=z
     ·rw[if_pos e2]at h2 ⊢;exact ih h1 h2
     ·rw[if_neg e2]at h2 ⊢;exact h2
    ·rw[if_neg e1]at h1
     have h1:=of_decide_eq_true h1;by_cases e2:y=z
     ·subst e2;rw[if_neg e1];exact decide_eq_true h1
     ·rw[if_neg e2]at h2
      have h2:=of_decide_eq_true h2;rw[if_neg ⋯];exact decide_eq_true ⋯
theorem o3(a b:List Nat):lxt a b=true\/a=b\/lxt b a=true:=by
 induction a generalizing b with
 | nil=>cases b with
  | nil=>exact .inr (.inl rfl)
  | cons y b=>exact .inl rfl
 | cons x a ih=>
  cases b with
  | nil=>exact .inr (.inr rfl)
  | cons y b=>
   rw[cL,cL];by_cases e:x=y
   ·subst e
    rw[if_pos rfl,if_pos rfl];rcases ih b with h|h|h
    ·exact .inl h
    ·exact .inr (.inl (by rw[h]))
    ·exact .inr (.inr h)
   ·rw[if_neg e,if_neg (Hx e)]
    rcases Ng e with h|h
    ·exact .inl (decide_eq_true h)
    ·exact .inr (.inr (decide_eq_true h))
def Rk(rss:List (List Nat))(c i j:Nat):Prop:=lxt ((rss.getD i []).drop c) ((rss.getD j []).drop c)=true\/((rss.getD i []).drop c=(rss.getD j []).drop c/\i<j)
theorem k9{α:Type}{R:α->α->Prop}(ha:∀a b,R a b->R b a->False):∀{xs ys:List α},xs.Perm ys->xs.Pairwise R->ys.Pairwise R->xs=ys
 | [],ys,hp,_,_=>by have:=hp.length_eq;exact(Ib.mp this.symm).symm
 | x::xs,[],hp,_,_=>by have:=hp.length_eq;simp at this
 | x::xs,y::ys,hp,h1,h2=>by
  have e:x=y:=by
   rcases GW.mp (hp.mem_iff.mp (Hl ..))with h|h
   ·exact h
   ·rcases GW.mp (hp.mem_iff.mpr (Hl ..))with g|g
    ·exact g.symm
    ·exact(ha x y ((Jx.mp h1).1 y g) ((Jx.mp h2).1 x h)).elim
  subst e;rw[k9 ha (List.perm_cons x |>.mp hp) (Jx.mp h1).2 (Jx.mp h2).2]
theorem ql{w b i c:Nat}(hi:i<rss.length)(hl:∀r∈rss,r.length=w)(hc:c<w):(rss.getD i []).drop c=(bS rss c).getD i 0::(rss.getD i []).drop (c+1):=by
 have e:rss.getD i []=rss[i]:=by rw[GB,Gz hi];rfl
 have hr:=hl rss[i] (GU hi);have e2:(bS rss c).getD i 0=rss[i].getD c 0:=by
  unfold bS;rw[GB,GE,Gz hi];rfl
 rw[e,e2,Lz (by lia:c<rss[i].length)];congr 1;rw[GB,Gz ⋯];rfl
theorem Rk.col{w:Nat}(hi:i<rss.length)(hj:j<rss.length)(hl:∀r∈rss,r.length=w)(hc:c<w)
  (h:(bS rss c).getD i 0<(bS rss c).getD j 0\/(bS rss c).getD i 0=(bS rss c).getD j 0/\Rk rss (c+1) i j):Rk rss c i j:=by
 unfold Rk;rw[ql (b:=0) hi hl hc,ql (b:=0) hj hl hc,cL];rcases h with h|⟨e,h|⟨h1,h2⟩⟩
 ·left;rw[if_neg ⋯];exact decide_eq_true h
 ·left;rw[if_pos e];exact h
 ·right;rw[e,h1];exact⟨rfl,h2⟩
theorem la{os:List Nat}{x y:Nat}(h:∀o∈os,o<b)(hp:¬dH (cnt os b)=true)(hx:x∈os)(hy:y∈os):x=y:=by
 have hl:(nj (cnt os b)).length=((GH b).filter λf=>decide (0<os.count f)).length:=by
  unfold nj cnt;rw[List.filter_map,GA];rfl
 have hm:∀z,z∈os->z∈(GH b).filter λf=>decide (0<os.count f):=λz hz=>JT.mpr ⟨Hj.mpr (h z hz),decide_eq_true (List.count_pos_iff.mpr hz)⟩
 have h1:((GH b).filter λf=>decide (0<os.count f)).length<=1:=by
  rw[<-hl];unfold dH at hp;have:=of_decide_eq_false (Bool.eq_false_iff.mpr hp);lia
 have g1:=hm x hx;have g2:=hm y hy;generalize (GH b).filter (λf=>decide (0<os.count f))=l at h1 g1 g2
 match l,h1,g1,g2 with
 | [z],_,g1,g2=>rw[G1.mp g1,G1.mp g2]
 | _::_::_,h1,_,_=>simp at h1
theorem wY{w:Nat}{os:List Nat}(hl:∀r∈rss,r.length=w)(hc:c<w)(hP:os.Perm (GH rss.length))(hS:os.Pairwise (Rk rss (c+1)))(hB:ByF (os.map λp=>(bS rss c).getD p 0) ob):(cmp os ob).Pairwise (Rk rss c):=by
 have hn:os.length=rss.length:=by have:=hP.length_eq;simpa using this
 have hO:=hB.ord;have hr:=hB.rise;rw[GA]at hO;unfold cmp;rw[Km];refine Jm (λ{i j} hi hj h=>?_) hr;have h1:=hO.lt i hi;have h2:=hO.lt j hj;have g1:os.getD i 0=os[i]:=by rw[GB,Gz h1];rfl
 have g2:os.getD j 0=os[j]:=by rw[GB,Gz h2];rfl
 have m1:os[i]<rss.length:=by simpa using hP.mem_iff.mp (GU h1)
 have m2:os[j]<rss.length:=by simpa using hP.mem_iff.mp (GU h2)
 have e1:(os.map λp=>(bS rss c).getD p 0).getD i 0=(bS rss c).getD os[i] 0:=by
  rw[GB,GE,Gz h1];rfl
 have e2:(os.map λp=>(bS rss c).getD p 0).getD j 0=(bS rss c).getD os[j] 0:=by
  rw[GB,GE,Gz h2];rfl
 rw[g1,g2];rw[e1,e2]at h;refine Rk.col m1 m2 hl hc ?_;rcases h with h|⟨h,hij⟩
 ·exact .inl h
 ·exact .inr ⟨h,Hq.mp hS i j h1 h2 hij⟩
theorem wZ{w:Nat}{os:List Nat}(hl:∀r∈rss,r.length=w)(hb:∀o∈bS rss c,o<b)(hc:c<w)(hP:os.Perm (GH rss.length))(hS:os.Pairwise (Rk rss (c+1)))(hp:¬dH (cnt (bS rss c) b)=true):os.Pairwise (Rk rss c):=by
 refine Jm (λ{i j} hi hj h=>?_) hS;have m1:i<rss.length:=by simpa using hP.mem_iff.mp hi
 have m2:j<rss.length:=by simpa using hP.mem_iff.mp hj
 refine Rk.col m1 m2 hl hc (.inr ⟨?_,h⟩);have hm:∀i,i<rss.length->(bS rss c).getD i 0∈bS rss c:=λi h=>by
  have h':i<(bS rss c).length:=by simpa [bS]using h
  rw[GB,Gz h'];exact GU h'
 exact la hb hp (hm i m1) (hm j m2)
theorem nw(h:∀r∈rss,r.length<=c):(GH rss.length).Pairwise (Rk rss c):=by
 refine Jm (λ{i j} hi hj h'=>?_) Mv;have m1:i<rss.length:=by simpa using hi
 have m2:j<rss.length:=by simpa using hj
 have e:∀i,i<rss.length->(rss.getD i []).drop c=[]:=λi hi=>by
  rw[GB,Gz hi];exact Mw (h _ (GU hi))
 exact .inr ⟨by rw[e i m1,e j m2],h'⟩
section
variable{X:Cx}{o a b e:Expr}{to ta tb te:TE}{pos p2 tpos:Pos}
def ED(to ta tb:TE):TG:=λv σ H R=>to σ H λx H1=>ta σ H1 λy H2=>tb σ H2 λz H3=>∃(l c:Addr) (xs ys:List V) (i j:Int),x=.ref l/\v=.ref c/\y=.int i/\z=.int j/\H3 l=some (.lst xs)/\H3 c=some (.lst ys)/\l≠c/\0<=i/\i<=j/\j<=xs.length/\xs.length+ys.length<=P4/\R σ (upd H3 l (.lst (xs.take i.toNat++ys++xs.drop j.toNat)))
theorem Ce(ho:PE X o to)(ha:PE X a ta)(hb:PE X b tb)
  (has:∀v,assign (.Subscript o (.Slice (some a) (some b) none p2) pos) X.env v=(do
   let ov <-Qo [v] (eval o X.env)
   let iv <-Qo [v,ov] (eval (.Slice (some a) (some b) none p2) X.env)
   standAt pos
   Qo [v,ov,iv] (setItem ov iv v)
   release [iv,v,ov] []):=by intro _;rfl):PG X (.Subscript o (.Slice (some a) (some b) none p2) pos) (ED to ta tb):=by
 intro pins s σ H v u Q I r h;rw[has];refine P2 (P7 (thn (ho pins s σ H _ I h) λov s1 ⟨x,H1,I1,r1,q1⟩=>?_));refine P2 (P7 (wpAny_Slice (evalPart_some_step (thn (ha pins s1 σ H1 _ I1 q1) λiv s2 ⟨y,H2,I2,r2,q2⟩=>?_))));refine evalPart_some_step (thn (hb pins s2 σ H2 _ I2 q2) λjv s3 ⟨z,H3,I3,r3,q3⟩=>?_);refine evalPart_none_step ?_;obtain⟨l,c,xs,ys,i,j,rfl,rfl,rfl,rfl,hl,hc,hne,h0,hij,hj,hz,q⟩:=q3;cases r1;cases r;have I4:Inv X pins σ H3 { s3 with heap:=s3.heap.push { cls:=.type "slice",data:=.fields #[iv,jv,.none] } }:=I3.kept (t':=s3.toks) λb ob q=>GD _ q
 refine P2 (Qr (P2 (P7 (tj I4 hl hc hne (La ..) r2 r3 h0 hij hj hz λs' I'=>?_))));exact wpAny_release ⟨σ,_,I',q⟩
theorem yA(he:QE X e te)(ho:QE X o to)(ha:QE X a ta)(hb:QE X b tb)
  (has:∀v,assign (.Subscript o (.Slice (some a) (some b) none p2) tpos) X.env v=(do
   let ov <-Qo [v] (eval o X.env)
   let iv <-Qo [v,ov] (eval (.Slice (some a) (some b) none p2) X.env)
   standAt tpos
   Qo [v,ov,iv] (setItem ov iv v)
   release [iv,v,ov] []):=by intro _;rfl)
  (hs:QN [.Subscript o (.Slice (some a) (some b) none p2) tpos] e pos.line X.env=pure false:=by rfl) (hw:QP [.Subscript o (.Slice (some a) (some b) none p2) tpos] e X.env=pure none:=by rfl)
  (h1:(Qn [.Subscript o (.Slice (some a) (some b) none p2) tpos] X.env).map (·.2)=[assign (.Subscript o (.Slice (some a) (some b) none p2) tpos) X.env]:=by rfl) :
  QS X (.Assign [.Subscript o (.Slice (some a) (some b) none p2) tpos] e pos) (sr te (ED to ta tb)):=⟨su he.out (Ce ho.out ha.out hb.out has) hs hw h1⟩
theorem zN:QS X (.Continue pos) y8:=⟨oA⟩
end
section
variable{K:GC}{σ:St}{H:Hp}{Q:VK}{D:Ends}
theorem EE{tb:TE}{R:St->Hp->Prop}(h:to σ H λx H1=>ta σ H1 λy H2=>tb σ H2 λz H3=>∃(l c:Addr) (xs ys:List V) (i j:Int),x=.ref l/\v=.ref c/\y=.int i/\z=.int j/\H3 l=some (.lst xs)/\H3 c=some (.lst ys)/\l≠c/\0<=i/\i<=j/\j<=xs.length/\xs.length+ys.length<=P4/\R σ (upd H3 l (.lst (xs.take i.toNat++ys++xs.drop j.toNat)))):ED to ta tb v σ H R:=h
theorem EF(h:D.ct σ H):y8 D σ H:=h
theorem gR{k:Nat}{x z:V}{R:St->Hp->Prop}(e:H p=some (.tup [x,y,z]))(h:R (((σ.set i (some x)).set j (some y)).set k (some z)) H):Dd K 3 (oB (gB i) (oB (gB j) (oB (gB k) Dc))) (.ref p) σ H R:=
 ⟨p,_,rfl,PQ e,rfl,_,_,rfl,_,_,rfl,_,_,rfl,rfl,h⟩
theorem ny{c:Addr}(h1:H l=some (.lst xs))(h2:H c=some (.lst ys))(hz:xs.length+ys.length<=P4)(h:Q .non (upd H l (.lst (xs++ys)))):oI (.ref l) [.ref c] H Q:=⟨l,c,xs,ys,rfl,rfl,h1,h2,hz,h⟩
theorem t8(h1:H l=some (.lst (xs++[y])))(h:Q y (upd H l (.lst xs))):D9 (.ref l) [] H Q:=⟨l,_,y,rfl,rfl,h1,by simp,by rw[List.dropLast_concat];exact h⟩
end
theorem qm:∀{c:Nat}{a b:List Nat},a.take c=b.take c->c<a.length->c<b.length->a.getD c 0<b.getD c 0->lxt a b=true
 | 0,x::a,y::b,_,_,_,h=>by rw[cL,if_neg (by simp at h;lia)];exact decide_eq_true (by simpa using h)
 | c+1,x::a,y::b,e,h1,h2,h=>by
  rw[KW,KW]at e;injection e with e1 e2
  rw[cL,if_pos e1];exact qm e2 (by simpa using h1) (by simpa using h2) (by simpa using h)
 | _,[],_,_,h1,_,_=>by simp at h1
 | _,_::_,[],_,_,h2,_=>by simp at h2
theorem qo{os:List Nat}{k g:Nat}(hk:k<os.length)(h1:bG os g<=e8 os k)(h2:e8 os k<bG os (g+1)):os.getD k 0=g:=by
 have r1:=gP hk;have r2:bG os (os.getD k 0)<=e8 os k:=by unfold e8;lia
 rcases Ij (os.getD k 0) g with h|h|h
 ·have:=dI (os:=os) (f:=os.getD k 0+1) (g:=g) h;lia
 ·exact h
 ·have:=dI (os:=os) (f:=g+1) (g:=os.getD k 0) h;lia
noncomputable abbrev eS:=Nat×Nat×Nat
structure Msd (rss:List (List Nat)) (C:Nat) (os:List Nat) (ws:List eS):Prop where
 perm:os.Perm (GH rss.length)
 ok:∀s∈ws,s.1<=s.2.1/\s.2.1<=rss.length/\s.2.2<=C
 dis:ws.Pairwise λs t=>s.2.1<=t.1\/t.2.1<=s.1
 like:∀s∈ws,∀i j,s.1<=i->i<j->j<s.2.1->(rss.getD (os.getD i 0) []).take s.2.2=(rss.getD (os.getD j 0) []).take s.2.2/\os.getD i 0<os.getD j 0
 rest:∀i j,i<j->j<rss.length->Rk rss 0 (os.getD i 0) (os.getD j 0)\/∃s∈ws,s.1<=i/\j<s.2.1
theorem Msd.ok'{os:List Nat}{ws:List eS}(h:Msd rss C os ws):∀s∈ws,s.2.2<=C:=λs hs=>(h.ok s hs).2.2
theorem lc(h:i<n):(GH n).getD i 0=i:=by rw[GB,Hu h];rfl
theorem Msd.start(rss:List (List Nat))(C:Nat):Msd rss C (GH rss.length) [(0,rss.length,0)]:=by
 refine⟨Jh _,λs hs=>?_,Iv ..,λs hs i j h1 h2 h3=>?_,λi j h1 h2=>.inr ⟨_,G1.mpr rfl,GR _,h2⟩⟩
 ·rw[G1.mp hs];exact⟨GR _,GF _,GR _⟩
 ·rw[G1.mp hs]at h1 h3 ⊢
  have h3:j<rss.length:=h3;rw[lc h3,lc (by lia:i<rss.length)];exact⟨rfl,h2⟩
theorem Msd.done{os:List Nat}(h:Msd rss C os []):os.Pairwise (Rk rss 0):=by
 have hl:os.length=rss.length:=by have:=h.perm.length_eq;simpa using this
 rw[Hq];intro i j hi hj hij;have e1:os.getD i 0=os[i]:=by rw[GB,Gz hi];rfl
 have e2:os.getD j 0=os[j]:=by rw[GB,Gz hj];rfl
 rcases h.rest i j hij ⋯with g|⟨s,hs,_⟩
 ·rw[e1,e2]at g;exact g
 ·cases hs
theorem Msd.at{os:List Nat}{ws:List eS}(h:Msd rss C os ws)(hi:i<rss.length):os.getD i 0<rss.length:=by
 have hl:os.length=rss.length:=by have:=h.perm.length_eq;simpa using this
 have hi':i<os.length:=by lia
 rw[GB,Gz hi'];simpa using h.perm.mem_iff.mp (GU hi')
theorem ir{p:Nat}(hw:∀r∈rss,r.length=C)(hp:p<rss.length):(rss.getD p []).length=C:=by
 rw[GB,Gz hp];exact hw _ (GU hp)
theorem Msd.skip{os:List Nat}{ws:List eS}{l:Nat}(h:Msd rss C os (ws++[(f,l,c)]))(hw:∀r∈rss,r.length=C)(hs:l<f+2\/c=C):Msd rss C os ws:=by
 have hm:(f,l,c)∈ws++[(f,l,c)]:=GG _ (G1.mpr rfl);refine⟨h.perm,λs hs=>h.ok s (HL _ hs),(II.mp h.dis).1,λs hs=>h.like s (HL _ hs),λi j hij hj=>?_⟩;rcases h.rest i j hij hj with g|⟨s,hs',h1,h2⟩
 ·exact .inl g
 ·rcases G9.mp hs' with g|g
  ·exact .inr ⟨s,g,h1,h2⟩
  ·rw[G1.mp g]at h1 h2
   have h1:f<=i:=h1;have h2:j<l:=h2;rcases hs with hs|hs
   ·lia
   ·obtain⟨e1,e2⟩:=h.like _ hm i j h1 hij h2
    left;right;rw[Ht,Ht];have e1:(rss.getD (os.getD i 0) []).take c=(rss.getD (os.getD j 0) []).take c:=e1;rw[GJ (by rw[ir hw (h.at ⋯)];lia),GJ (by rw[ir hw (h.at hj)];lia)]at e1;exact⟨e1,e2⟩
noncomputable def bq(f:Nat)(cs:List Nat)(c:Nat):List eS:=(GH cs.length).map λg=>(f+(cs.take g).sum,f+(cs.take g).sum+cs.getD g 0,c)
theorem iu{s:eS}(h:s∈bq f (cnt row b) c):∃g,g<b/\s=(f+bG row g,f+bG row (g+1),c):=by
 unfold bq at h;obtain⟨g,hg,rfl⟩:=GX.mp h;rw[bt,Hj]at hg;refine⟨g,hg,?_⟩;rw[bO row b g ⋯,cO,GB,gb hg,Lo];rfl
theorem rE{g:Nat}(hg:g<b):(f+bG row g,f+bG row (g+1),c)∈bq f (cnt row b) c:=by
 unfold bq;refine GX.mpr ⟨g,Hj.mpr (by rw[bt];exact hg),?_⟩;rw[bO row b g ⋯,cO,GB,gb hg,Lo];rfl
theorem partsF_dis:(bq f (cnt row b) c).Pairwise λs t=>s.2.1<=t.1\/t.2.1<=s.1:=by
 unfold bq;rw[Km];refine Jm (λ{g h} hg hh hgh=>?_) Mv;rw[bt,Hj]at hg hh;left;have e:(cnt row b).getD g 0=row.count g:=by rw[GB,gb hg];rfl
 show f+((cnt row b).take g).sum+(cnt row b).getD g 0<=f+((cnt row b).take h).sum
 rw[bO row b g ⋯,bO row b h ⋯,e];have:=dI (os:=row) (f:=g+1) (g:=h) hgh;rw[cO]at this;lia
theorem Msd.step{os:List Nat}{ws:List eS}{l:Nat}(h:Msd rss C os (ws++[(f,l,c)]))(hw:∀r∈rss,r.length=C)(hc:c<C)(hb:∀o∈bS rss c,o<b)
  (hB:ByF (((os.drop f).take (l - f)).map λp=>(bS rss c).getD p 0) ob):Msd rss C (os.take f++cmp ((os.drop f).take (l - f)) ob++os.drop l) (ws++(bq f (cnt (((os.drop f).take (l - f)).map λp=>(bS rss c).getD p 0) b) (c+1)).reverse):=by
 have hm:(f,l,c)∈ws++[(f,l,c)]:=GG _ (G1.mpr rfl);obtain⟨hfl,hln,_⟩:=h.ok _ hm;have hfl:f<=l:=hfl;have hln:l<=rss.length:=hln;have hol:os.length=rss.length:=by have:=h.perm.length_eq;simpa using this
 have hsl:((os.drop f).take (l - f)).length=l - f:=by rw[G5,Ig];lia
 have hrl:(((os.drop f).take (l - f)).map λp=>(bS rss c).getD p 0).length=l - f:=by rw[GA,hsl]
 have hO:=hB.ord;rw[hrl]at hO;have hrise:=hB.rise;have hold:=h.like _ hm;have hold:∀i j,f<=i->i<j->j<l->(rss.getD (os.getD i 0) []).take c=(rss.getD (os.getD j 0) []).take c/\os.getD i 0<os.getD j 0:=hold
 have segD:∀k,k<l - f->((os.drop f).take (l - f)).getD k 0=os.getD (f+k) 0:=λk hk=>by
  rw[GB,JW hk,Nh,GB]
 have rowDk:∀k,k<l - f->(((os.drop f).take (l - f)).map λp=>(bS rss c).getD p 0).getD k 0=(bS rss c).getD (os.getD (f+k) 0) 0:=λk hk=>by
  rw[GB,GE,<-segD k hk,GB (l:=(os.drop f).take (l - f)),Gz (by lia:k<((os.drop f).take (l - f)).length)];rfl
 have hfig:∀k,k<l - f->(rss.getD (os.getD (f+k) 0) []).getD c 0=(bS rss c).getD (os.getD (f+k) 0) 0:=λk hk=>by
  have:=h.at (i:=f+k) ⋯;unfold bS;rw[GB (l:=rss.map _),GE,Gz this,GB (l:=rss),Gz this];rfl
 -- where each comes from
 have hpi:∀i,i<rss.length->(f<=i/\i<l->∃k,k<l - f/\ob[i - f]? = some k/\i - f=e8 (((os.drop f).take (l - f)).map λp=>(bS rss c).getD p 0) k/\(os.take f++cmp ((os.drop f).take (l - f)) ob++os.drop l).getD i 0=os.getD (f+k) 0)/\(¬(f<=i/\i<l)->(os.take f++cmp ((os.drop f).take (l - f)) ob++os.drop l).getD i 0=os.getD i 0):=by
  intro i hi;have hcl:(cmp ((os.drop f).take (l - f)) ob).length=l - f:=by rw[ip,hO.len]
  have htl:(os.take f).length=f:=by rw[G5];lia
  constructor
  ·rintro⟨h1,h2⟩
   obtain⟨k,hk,hkl⟩:=hO.get (i:=i - f) ⋯;refine⟨k,hkl,hk,(hB.get hk).2,?_⟩;rw[GB,G6 (by rw[GZ,htl,hcl];lia),He (by rw[htl];exact h1),htl,oW hk (r:=((os.drop f).take (l - f))[k]'⋯) (Gz _)];rw[<-segD k hkl,GB,Gz ⋯]
  ·intro hn
   by_cases h1:i<f
   ·rw[GB,G6 (by rw[GZ,htl];lia),G6 (by rw[htl];exact h1),JW h1,GB]
   ·rw[GB,He (by rw[GZ,htl,hcl];lia),GZ,htl,hcl,Nh,GB]
    congr 2;lia
 have hdis:∀s∈ws,s.2.1<=f\/l<=s.1:=λs hs=>by
  have:=(II.mp h.dis).2.2 s hs (f,l,c) (G1.mpr rfl);exact this
 have hlik:∀k1 k2,k1<l - f->k2<l - f->k1≠k2->(rss.getD (os.getD (f+k1) 0) []).take c=(rss.getD (os.getD (f+k2) 0) []).take c:=λk1 k2 h1 h2 hne=>by
  rcases Ng hne with g|g
  ·exact(hold (f+k1) (f+k2) ⋯ ⋯ ⋯).1
  ·exact(hold (f+k2) (f+k1) ⋯ ⋯ ⋯).1.symm
 generalize hrow:((os.drop f).take (l - f)).map (λp=>(bS rss c).getD p 0)=row at *;have hrlt:∀k,k<l - f->row.getD k 0<b:=λk hk=>by
  rw[rowDk k hk];have:=h.at (i:=f+k) ⋯;have h':os.getD (f+k) 0<(bS rss c).length:=by simpa [bS]using this
  rw[GB,Gz h'];exact hb _ (GU h')
 have rise:∀i j k1 k2,i<j->ob[i]? = some k1->ob[j]? = some k2->row.getD k1 0<row.getD k2 0\/row.getD k1 0=row.getD k2 0/\k1<k2:=λi j k1 k2 hij e1 e2=>by
  obtain⟨a1,a2⟩:=GQ.mp e1;obtain⟨b1,b2⟩:=GQ.mp e2;have:=Hq.mp hrise i j a1 b1 hij;rw[a2,b2]at this;exact this
 generalize hos':os.take f++cmp ((os.drop f).take (l - f)) ob++os.drop l=os' at *;refine⟨?_,λs hs=>?_,?_,λs hs i j h1 h2 h3=>?_,λi j hij hj=>?_⟩
 ·rw[<-hos']
  refine NT ?_ h.perm;have e:os=os.take f++(os.drop f).take (l - f)++os.drop l:=by
   have e1:os.drop l=(os.drop f).drop (l - f):=by rw[Ke];congr 1;lia
   rw[e1,HY,JI,JI]
  conv=>rhs;rw[e]
  refine Pa _ (ME _ ?_);exact lF (by rw[hsl];exact hO.perm)
 ·rcases G9.mp hs with g|g
  ·exact h.ok s (HL _ g)
  ·obtain⟨z,hz,rfl⟩:=iu (Jn.mp g)
   have:=dI (os:=row) (f:=z) (g:=z+1) ⋯;have:=jj row (z+1);exact⟨by show f+_<=f+_;lia,by show f+_<=_;lia,hc⟩
 ·rw[II]
  refine⟨(II.mp h.dis).1,?_,λs hs t ht=>?_⟩
  ·rw[List.pairwise_reverse]
   exact partsF_dis.imp λ{s t} g=>g.symm
  ·obtain⟨z,hz,rfl⟩:=iu (Jn.mp ht)
   have:=jj row (z+1);rcases hdis s hs with g|g
   ·left;show s.2.1<=f+_;lia
   ·right;show f+_<=s.1;lia
 ·rcases G9.mp hs with g|g
  ·have:=(h.ok s (HL _ g)).2.1
   have hd:=hdis s g;rw[(hpi i ⋯).2 ⋯,(hpi j ⋯).2 ⋯];exact h.like s (HL _ g) i j h1 h2 h3
  ·obtain⟨z,hz,rfl⟩:=iu (Jn.mp g)
   have h1:f+bG row z<=i:=h1;have h3:j<f+bG row (z+1):=h3;have hle:=jj row (z+1);obtain⟨k1,hk1,o1,p1,e1⟩:=(hpi i ⋯).1 ⟨by lia,by lia⟩;obtain⟨k2,hk2,o2,p2,e2⟩:=(hpi j ⋯).1 ⟨by lia,by lia⟩;have f1:=qo (os:=row) (k:=k1) (g:=z) ⋯ ⋯ ⋯;have f2:=qo (os:=row) (k:=k2) (g:=z) ⋯ ⋯ ⋯;have hk:k1<k2:=by
    rcases rise (i - f) (j - f) k1 k2 ⋯ o1 o2 with g|⟨_,g⟩
    ·lia
    ·exact g
   obtain⟨t1,t2⟩:=hold (f+k1) (f+k2) ⋯ ⋯ ⋯;rw[e1,e2];refine⟨?_,t2⟩;show(rss.getD (os.getD (f+k1) 0) []).take (c+1)=(rss.getD (os.getD (f+k2) 0) []).take (c+1)
   have l1:=ir hw (h.at (i:=f+k1) ⋯);have l2:=ir hw (h.at (i:=f+k2) ⋯);have g1:=hfig k1 hk1;have g2:=hfig k2 hk2;rw[<-rowDk k1 hk1,f1]at g1;rw[<-rowDk k2 hk2,f2]at g2;rw[GS,GS,t1,Gz ⋯,Gz ⋯];rw[GB,Gz ⋯]at g1 g2;simp only[Option.getD_some]at g1 g2;rw[g1,g2]
 ·by_cases hin:f<=i/\j<l
  ·obtain⟨k1,hk1,o1,p1,e1⟩:=(hpi i ⋯).1 ⟨by lia,by lia⟩
   obtain⟨k2,hk2,o2,p2,e2⟩:=(hpi j ⋯).1 ⟨by lia,by lia⟩;have hne:k1≠k2:=λz=>by subst z;lia
   rcases rise (i - f) (j - f) k1 k2 ⋯ o1 o2 with g|⟨g,gk⟩
   ·left;left
    rw[Ht,Ht,e1,e2];refine qm (c:=c) (hlik k1 k2 hk1 hk2 hne) (by rw[ir hw (h.at ⋯)];exact hc) (by rw[ir hw (h.at ⋯)];exact hc) ?_;rw[hfig k1 hk1,hfig k2 hk2,<-rowDk k1 hk1,<-rowDk k2 hk2];exact g
   ·right
    refine⟨_,GG _ (Jn.mpr (rE (g:=row.getD k1 0) (hrlt k1 hk1))),?_,?_⟩
    ·show f+bG row (row.getD k1 0)<=i
     have:bG row (row.getD k1 0)<=e8 row k1:=by unfold e8;lia
     lia
    ·show j<f+bG row (row.getD k1 0+1)
     have:=gP (os:=row) (k:=k2) ⋯;rw[<-g]at this;lia
  ·-- not both within
   have hout:∀i,i<rss.length->∃i',os'.getD i 0=os.getD i' 0/\((f<=i/\i<l/\f<=i'/\i'<l)\/(¬(f<=i/\i<l)/\i'=i)):=λi hi=>by
    by_cases g:f<=i/\i<l
    ·obtain⟨k1,hk1,o1,p1,e1⟩:=(hpi i hi).1 g
     exact⟨f+k1,e1,.inl ⟨g.1,g.2,by lia,by lia⟩⟩
    ·exact⟨i,(hpi i hi).2 g,.inr ⟨g,rfl⟩⟩
   obtain⟨i',ei,hi'⟩:=hout i ⋯;obtain⟨j',ej,hj'⟩:=hout j hj;rw[ei,ej];have hij':i'<j':=by lia
   have hjn:j'<rss.length:=by lia
   rcases h.rest i' j' hij' hjn with g|⟨s,hs,h1,h2⟩
   ·exact .inl g
   ·rcases G9.mp hs with g|g
    ·have hd:=hdis s g
     have hok:=h.ok s hs;refine .inr ⟨s,HL _ g,?_,?_⟩<;>lia
    ·rw[G1.mp g]at h1 h2
     have h1:f<=i':=h1;have h2:j'<l:=h2;lia
theorem t9(h:∀x∈row,∀y∈row,x=y):ByF row (GH row.length):=by
 refine⟨by simp,λk hk=>?_⟩;have e0:row.getD k 0=row[k]:=by rw[GB,Gz hk];rfl
 have e1:bG row row[k]=0:=M3.mpr λx hx g=>by
  have:=h x hx row[k] (GU hk);have:=of_decide_eq_true g;lia
 have e2:(row.take k).count row[k]=k:=by
  have:(row.take k).count row[k]=(row.take k).length:=List.count_eq_length.mpr λx hx=>h row[k] (GU hk) x (KO hx)
  rw[this,G5];lia
 have:e8 row k=k:=by unfold e8;rw[e0,e1,e2];lia
 rw[this,Hu hk]
theorem ua(seg:List Nat)(h:seg.length=n):cmp seg (GH n)=seg:=by
 subst h;unfold cmp;exact fR seg
noncomputable def lI(b C:Nat)(ws:List eS):Nat:=(ws.map λs=>(b+1) ^ (C+1 - s.2.2)).sum
theorem lf(b C:Nat)(ws:List eS)(s:eS):lI b C (ws++[s])=lI b C ws+(b+1) ^ (C+1 - s.2.2):=by
 unfold lI;rw[GM,IH];simp
theorem qp(b C:Nat)(ws:List eS)(s:eS):lI b C ws<lI b C (ws++[s]):=by
 rw[lf];have:0<(b+1) ^ (C+1 - s.2.2):=Ko ⋯;lia
theorem jK{α:Type}(k:Nat)(f:α->Nat):∀{xs:List α},(∀x∈xs,f x=k)->(xs.map f).sum=xs.length*k
 | [],_=>by simp
 | x::xs,h=>by
  rw[Hg,IB,h x (Hl ..),jK k f (λy hy=>h y (Hn _ hy)),Hh,OO];lia
theorem rF{l:Nat}(ws:List eS)(hc:c<C)(hl:cs.length=b):lI b C (ws++(bq f cs (c+1)).reverse)<lI b C (ws++[(f,l,c)]):=by
 rw[lf];unfold lI;rw[GM,IH,jK ((b+1) ^ (C+1 - (c+1))) _ (xs:=(bq f cs (c+1)).reverse) (λs hs=>by
  unfold bq at hs;obtain⟨g,_,rfl⟩:=GX.mp (Jn.mp hs);rfl),IN]
 have e1:(bq f cs (c+1)).length=b:=by unfold bq;simp[hl]
 have e2:C+1 - c=(C+1 - (c+1))+1:=by lia
 rw[e1];show _<_+(b+1) ^ (C+1 - c)
 rw[e2,JF,OQ ((b+1) ^ (C+1 - (c+1))) (b+1),Nat.add_mul,Pb];have:0<(b+1) ^ (C+1 - (c+1)):=Ko ⋯;lia
noncomputable def gS(ws:List eS):Nat:=(ws.map λs=>s.2.1 - s.1 - 1).sum
theorem o7(ws:List eS)(s:eS):gS (ws++[s])=gS ws+(s.2.1 - s.1 - 1):=by
 unfold gS;rw[GM,IH];simp
theorem lJ:∀cs:List Nat,(cs.map λc=>c - 1).sum+(nj cs).length=cs.sum
 | []=>rfl
 | c::cs=>by
  have ih:=lJ cs;unfold nj at ih ⊢;rw[Hg,IB,IB];by_cases h:0<c
  ·rw[List.filter_cons_of_pos (by simpa using h),Hh];lia
  ·rw[List.filter_cons_of_neg (by simpa using h)];lia
theorem nz(ws:List eS)(f c:Nat)(cs:List Nat):gS (ws++(bq f cs c).reverse)+(nj cs).length=gS ws+cs.sum:=by
 unfold gS;rw[GM,IH,LK,List.sum_reverse];have e:(bq f cs c).map (λs=>s.2.1 - s.1 - 1)=cs.map λc=>c - 1:=by
  unfold bq;rw[Hv];apply Kw (by simp);intro i h1 h2;have hi:i<cs.length:=by simpa using h2
  simp[GB,Gz hi]
 rw[e];have:=lJ cs;lia
def Low(b:Nat)(ws:List eS):Prop:=∀(i:Nat) s,ws[i]? = some s->i<=b*s.2.2
theorem Low.left{ws vs:List eS}(h:Low b (ws++vs)):Low b ws:=λi s e=>h i s (by rw[G6 (aI e)];exact e)
theorem Low.step{l:Nat}{ws:List eS}(h:Low b (ws++[(f,l,c)]))(hl:cs.length=b):Low b (ws++(bq f cs (c+1)).reverse):=λi s e=>by
 have h0:ws.length<=b*c:=h ws.length (f,l,c) (by simp);by_cases hi:i<ws.length
 ·exact h i s (by rw[G6 hi]at e ⊢;exact e)
 ·rw[He ⋯]at e
  have hm:=Hc e;have hlt:=aI e;unfold bq at hm hlt;rw[IN,GA,HH,hl]at hlt;obtain⟨g,_,rfl⟩:=GX.mp (Jn.mp hm);show i<=b*(c+1)
  rw[NB,NC];lia
theorem Low.len{ws:List eS}(h:Low b ws)(hc:∀s∈ws,s.2.2<=C):ws.length<=b*C+1:=by
 cases hw:ws.length with
 | zero=>lia
 | succ n=>
  have e:ws[n]? = some (ws[n]'⋯):=Gz _;have h1:=h n _ e;have h2:=hc _ (GU (by lia:n<ws.length));have h3:b*(ws[n]'⋯).2.2<=b*C:=KY b h2;lia
def TrAt(H:Hp)(qs:List Addr)(ws:List eS):Prop:=qs.length=ws.length/\∀(i:Nat) q s,qs[i]? = some q->ws[i]? = some s->H q=some (.tup [.int (s.1:Nat),.int (s.2.1:Nat),.int (s.2.2:Nat)])
theorem TrAt.same{H:Hp}{ws:List eS}(h:TrAt H qs ws)(s:Same H H1):TrAt H1 qs ws:=⟨h.1,λi q t a b=>s _ _ (h.2 i q t a b)⟩
theorem TrAt.own{H:Hp}{ws:List eS}(h:TrAt H qs ws)(hl:H l=some (.lst xs)):TrAt (upd H l (.lst ys)) qs ws:=⟨h.1,λi q t a b=>by
 have e:=h.2 i q t a b;rw[ai (dU e hl (by intro c;cases c))];exact e⟩
theorem TrAt.snoc{H:Hp}{ws:List eS}{s:eS}(h:TrAt H qs ws)(e:H q=some (.tup [.int (s.1:Nat),.int (s.2.1:Nat),.int (s.2.2:Nat)])):TrAt H (qs++[q]) (ws++[s]):=by
 refine⟨by simp[h.1],λi p y a b=>?_⟩;rcases aG a with⟨l,a⟩|⟨l,a⟩
 ·rcases aG b with⟨_,b⟩|⟨l',b⟩
  ·exact h.2 i p y a b
  ·have:=h.1;lia
 ·rcases aG b with⟨l',b⟩|⟨_,b⟩
  ·have:=h.1;lia
  ·rw[a,b];exact e
theorem TrAt.app{H:Hp}{rs:List Addr}{ws vs:List eS}(h:TrAt H qs ws)(g:TrAt H rs vs):TrAt H (qs++rs) (ws++vs):=by
 refine⟨by simp[h.1,g.1],λi p y a b=>?_⟩;have hl:=h.1;by_cases hi:i<qs.length
 ·rw[G6 hi]at a
  rw[G6 ⋯]at b;exact h.2 i p y a b
 ·rw[He ⋯]at a
  rw[He ⋯,<-hl]at b;exact g.2 _ p y a b
theorem TrAt.rev{H:Hp}{ws:List eS}(h:TrAt H ps ws):TrAt H ps.reverse ws.reverse:=by
 refine⟨by simp[h.1],λi q y a b=>?_⟩;have hl:i<ps.length:=by have:=(GQ.mp a).1;simpa using this
 rw[KC hl]at a;rw[KC (by rw[<-h.1];exact hl),<-h.1]at b;exact h.2 _ q y a b
theorem TrAt.last{H:Hp}{ws:List eS}(h:TrAt H qs ws)(hq:qs≠[]):∃rs q vs s,qs=rs++[q]/\ws=vs++[s]/\TrAt H rs vs/\H q=some (.tup [.int (s.1:Nat),.int (s.2.1:Nat),.int (s.2.2:Nat)]):=by
 rcases KD qs with e|⟨rs,q,e⟩
 ·exact absurd e hq
 ·rcases KD ws with e2|⟨vs,s,e2⟩
  ·have:=h.1;rw[e,e2]at this;simp at this
  ·rw[MF]at e e2
   subst e e2;have hl:rs.length=vs.length:=by have:=h.1;simpa using this
   refine⟨rs,q,vs,s,rfl,rfl,⟨hl,λi p t a b=>?_⟩,?_⟩
   ·exact h.2 i p t (by rw[G6 (aI a)];exact a) (by rw[G6 (aI b)];exact b)
   ·exact h.2 rs.length q s (by simp) (by simp[hl])
theorem ub(os:List Nat){l:Nat}(h1:f<=l)(h2:l<=os.length):kU (NV os) (some (f:Int)) (some (l:Int))=NV ((os.drop f).take (l - f)):=by
 unfold kU;rw[HT.fZ,HT.fZ,aw,Jw (by lia:f<=os.length),Jw h2];unfold NV;rw[Kr,Lp]
def Sc(v:V):Prop:=v=.non\/(∃b,v=.bl b)\/(∃i,v=.int i)\/∃x,v=.str x
def Th(H:Hp)(v:V):Prop:=Sc v\/∃t xs,v=.ref t/\H t=some (.tup xs)/\0<xs.length/\xs.length<=2/\∀x∈xs,Sc x
def ThE(H:Hp)(x y:V):Prop:=(Sc x/\y=x)\/∃t u xs,x=.ref t/\y=.ref u/\H t=some (.tup xs)/\H u=some (.tup xs)/\0<xs.length/\xs.length<=2/\∀z∈xs,Sc z
theorem Th.same{H:Hp}(h:Th H v)(s:Same H H1):Th H1 v:=h.elim .inl λ⟨t,xs,e,a,b⟩=>.inr ⟨t,xs,e,s _ _ a,b⟩
theorem ThE.same{H:Hp}{x:V}(h:ThE H x y)(s:Same H H1):ThE H1 x y:=h.elim .inl λ⟨t,u,xs,e,e',a,a',b⟩=>.inr ⟨t,u,xs,e,e',s _ _ a,s _ _ a',b⟩
section
variable{X:Cx}{e e2 o:Expr}{to te:TE}{t:TA}{pos apos cpos:Pos}
inductive TyC (H:Hp):V->Value->Prop where
 | non:TyC H .non (.type "NoneType")
 | bl (b:Bool):TyC H (.bl b) (.type "bool")
 | int (i:Int):TyC H (.int i) (.type "int")
 | str (x:Str):TyC H (.str x) (.type "str")
 | lst {a:Addr}{xs:List V}(e:H a=some (.lst xs)):TyC H (.ref a) (.type "list")
 | tup {a:Addr}{xs:List V}(e:H a=some (.tup xs)):TyC H (.ref a) (.type "tuple")
def zO (K:GC):RC:=λxs H Q=>∃x t tp b,xs=[x,.ref tp]/\H tp=some (.tup [.ty "list",.ty "tuple"])/\TyC H x t/\N4 K t [.type "list",.type "tuple"]=some b/\Q (.bl b) H
theorem zP {K:GC}(hK:X.K=K:=by rfl):QC X (.builtin "isinstance") (zO K):=by
 subst hK;refine⟨λpins s σ H xs us Q I r h=>?_⟩;obtain⟨x,t,tp,b,rfl,htp,ty,e,q⟩:=h;cases r with
 | cons rx rr=>
  cases rr with
  | cons ry rr=>
   cases rr;cases ry;obtain⟨_,its,rv,⟨⟨c,dd,dt,sl⟩,g1,g2,n,g3⟩⟩:=(show ObjOk X.prog X.w H s.heap tp (.tup [.ty "list",.ty "tuple"])from I.hok tp _ htp);have g2':c=.type "tuple":=g2;have g3':dt=.seq its.toArray n:=g3;subst g2' g3';have ei:its=[.type "list",.type "tuple"]:=by
    cases rv with
    | cons r1 rr=>
     cases rr with
     | cons r2 rr=>
      cases rr;cases r1;cases r2;rfl
   subst ei;have fin:∀tk,EP X pins σ Q (.bool b) { s with toks:=tk }:=λtk=>⟨.bl b,H,I.tok _,rfl,q⟩
   cases ty with
   | non=>cases(show _=Hf from rx);exact Io Ls I.kIn GL g1 e (λz=>nomatch z) fin
   | bl i=>cases(show _=Jc i from rx);exact Io Nm I.kIn GL g1 e (λz=>nomatch z) fin
   | int i=>obtain⟨tt,rfl⟩:=rx;exact Io LF I.kIn GL g1 e (λz=>nomatch z) fin
   | str i=>obtain⟨tt,rfl⟩:=rx;exact Io NE I.kIn GL g1 e (λz=>nomatch z) fin
   | @lst a xs ea=>
    cases rx;obtain⟨_,_,n',_,h1⟩:=(show ObjOk X.prog X.w H s.heap a (.lst xs)from I.hok a _ ea);exact Io Kj I.kIn ⟨_,h1,rfl⟩ g1 e (λz=>nomatch z) fin
   | @tup a xs ea=>
    cases rx;obtain⟨_,_,_,⟨o',h1,h2,_⟩⟩:=(show ObjOk X.prog X.w H s.heap a (.tup xs)from I.hok a _ ea);exact Io K8 I.kIn ⟨_,h1,h2⟩ g1 e (λz=>nomatch z) fin
theorem jL(l:Addr)(items:Array Value)(n:Nat)(b:Addr)(items2:Array Value)(n2:Nat)(dd2:Option Addr)(sl2:Array (Option Value))(hlong:¬(!items.isEmpty && Ir (items.size+items2.size))=true)(hz:items.size<=P4)(hz2:items.size+items2.size<=P4+1):
  Meets (Builtin.«list.extend» ⟨[.ref l,.ref b],[]⟩)
   (λ_ R s=>s.heap.get? l=some { cls:=.type "list",data:=.seq items n }/\s.heap.get? b=some { cls:=.type "tuple",dict:=dd2,data:=.seq items2 n2,slots:=sl2 }/\
    R (.ok (.ret .none)) { s with heap:=s.heap.update l (Hd λx=>x++items2) }):=
 .of_wp λprog w A R s h=>by
  obtain⟨hp,g,d,tk,os⟩:=s;obtain⟨hl,hb,h⟩:=h;have f2:=JX
  wp_walk using KP hl,KP hb
  have e9:(Hd (λx=>x++items2) { cls:=Im "list",data:=OV items n }).data.pastItsLine=none:=by
   unfold Hd Data.pastItsLine;simp;lia
  rw[e9];exact P3 (P3 ⟨_,rfl,h⟩)
def lK:V->List V->Hp->VK->Prop:=λx vs H Q=>∃l b xs zs,x=.ref l/\vs=[.ref b]/\H l=some (.lst xs)/\H b=some (.tup zs)/\xs.length+zs.length<=P4/\Q .non (upd H l (.lst (xs++zs)))
theorem rG:MtM X "list.extend" lK:=by
 intro pins s σ H x vs v us Q I rx rv h;obtain⟨l,b,xs,zs,rfl,rfl,hH,hB,hz,q⟩:=h;cases rx;obtain⟨u,rfl,ru⟩:=rv.one;cases ru;obtain⟨z,its,n,r,hl,e⟩:=I.lstM hH;obtain⟨its2,r2,⟨⟨c2,d2,t2,l2⟩,o4,o5,n2,o6⟩,hz2⟩:=I.tuple (PQ hB);have hl2:=r2.length;have o5':c2=.type "tuple":=o5;have o6':t2=.seq its2.toArray n2:=o6;subst o5' o6';have hsz:its.toArray.size+its2.toArray.size<=P4:=by rw[GO,GO];lia
 have hlong:¬(!its.toArray.isEmpty && Ir (its.toArray.size+its2.toArray.size))=true:=by
  rw[gG hsz,N3];exact G3
 refine QU Nb ⟨_,e,rfl⟩ M0 (MR _ _)
  (jL l its.toArray n b its2.toArray n2 d2 l2 hlong (by rw[GO];lia) ⋯) ⟨e,o4,?_⟩
 refine⟨.non,_,I.lset (its':=its++its2) hH e (by simp) (r.append r2) ?_,rfl,q⟩;rw[GZ];lia
theorem rH {K:GC}(ho:QE X o to) (ha:QA X [e] t) (hbase:attributeBase o ("extend" : Str) X.env (eval o X.env)=eval o X.env:=by rfl) (hline:(apos.endLine == cpos.line)=true:=by rfl) (hn:bQ e=true:=by rfl) (hK:X.K=K:=by rfl) :
  QE X (.Call (.Attribute o "extend" apos) [e] [] cpos) (tBM K "list" lK to t):=by subst hK;exact⟨tF Jt LN LO rG ho.out ha.out hbase hline hn⟩
end
section
variable{K:GC}{σ:St}{H:Hp}{Q:VK}
theorem qq {x:V}{tp:Addr}(e:H tp=some (.tup [.ty "list",.ty "tuple"])) (hx:Sc x) (h:Q (.bl false) H):zO K [x,.ref tp] H Q:=by
 rcases hx with rfl|⟨b,rfl⟩|⟨i,rfl⟩|⟨s,rfl⟩
 ·exact⟨_,_,tp,_,rfl,e,.non,rfl,h⟩
 ·exact⟨_,_,tp,_,rfl,e,.bl b,rfl,h⟩
 ·exact⟨_,_,tp,_,rfl,e,.int i,rfl,h⟩
 ·exact⟨_,_,tp,_,rfl,e,.str s,rfl,h⟩
theorem w6 {tp:Addr}(s:H p=some (.tup xs)) (e:H tp=some (.tup [.ty "list",.ty "tuple"])) (h:Q (.bl true) H):zO K [.ref p,.ref tp] H Q:=⟨_,_,tp,_,rfl,e,.tup s,rfl,h⟩
theorem qr {x:V}(hx:Sc x) (h:Q (.bl false) H):yp K [x,.ty "list"] H Q:=by
 rcases hx with rfl|⟨b,rfl⟩|⟨i,rfl⟩|⟨s,rfl⟩
 ·exact⟨_,_,_,_,rfl,.non,rfl,h⟩
 ·exact⟨_,_,_,_,rfl,.bl b,rfl,h⟩
 ·exact⟨_,_,_,_,rfl,.int i,rfl,h⟩
 ·exact⟨_,_,_,_,rfl,.str s,rfl,h⟩
theorem qu {x:V}(hx:Sc x) (h:Q (.bl false) H):yp K [x,.ty "tuple"] H Q:=by
 rcases hx with rfl|⟨b,rfl⟩|⟨i,rfl⟩|⟨s,rfl⟩
 ·exact⟨_,_,_,_,rfl,.non,rfl,h⟩
 ·exact⟨_,_,_,_,rfl,.bl b,rfl,h⟩
 ·exact⟨_,_,_,_,rfl,.int i,rfl,h⟩
 ·exact⟨_,_,_,_,rfl,.str s,rfl,h⟩
theorem rJ{c:Addr}(h1:H l=some (.lst xs))(h2:H c=some (.tup ys))(hz:xs.length+ys.length<=P4)(h:Q .non (upd H l (.lst (xs++ys)))):lK (.ref l) [.ref c] H Q:=⟨l,c,xs,ys,rfl,rfl,h1,h2,hz,h⟩
end
theorem Cf(n:Nat):Ia 0 (n:Int) 2=((n+1) / 2:Nat):=by
 unfold Ia;rw[if_pos (by decide)];split
 ·lia
 ·lia
theorem dL{i:Int}(h1:-1000000<=i)(h2:i<=1000000):JL i=true:=by
 unfold JL;rw[Iq];exact⟨decide_eq_true (OR (by decide) h1),decide_eq_true (Int.lt_of_le_of_lt h2 (by decide))⟩
theorem Cg(h:n<=1000):Jp 0 (n:Int) 2=true:=by
 unfold Jp;rw[Cf,dL (i:=0) (by decide) (by decide),dL (i:=(n:Int)) ⋯ ⋯,dL (i:=2) (by decide) (by decide),dL (i:=(((n+1) / 2:Nat):Int)) ⋯ ⋯,if_pos (by decide),dL (i:=(n:Int)+(2 - 1)) ⋯ ⋯,LJ];rfl
def It2(n:Nat):It:=⟨λi _=>i<(n+1) / 2,λi H x H'=>H'=H/\x=.int ((2*i:Nat):Int),λi _=>(n+1) / 2<=i⟩
theorem o8{w:World}{K:GC}(it:Addr)(n:Nat):Turn P w K tg (It2 n) [it] it (λi h=>IsRangeIter h it ((0:Int)+(i:Nat)*2) ((((n+1) / 2:Nat):Int) - (i:Nat)) 2) where
 mem:=by simp
 obj:=λi h st b hb=>by
  have e:b=it:=by simpa using hb
  subst e;exact⟨_,st,λv z=>by
   have z':Nw _=N9 v:=z;cases z'⟩
 keep:=λi h h' st k=>k it (by simp) _ st
 item:=by
  intro X hP hw hK hc i pins s σ H E I hf st hg;subst hP hw hK;obtain⟨f0,f1,f2,f3,f4,f5⟩:=hf it (by simp);have hi:i<(n+1) / 2:=hg;have W:=Ny (prog:=X.prog) (w:=X.w) (I.ok.hd hc) it 0 2 ((n+1) / 2);refine W.item i s _ _ hg st λv h' tk hv st' kk=>?_
  obtain⟨t,rfl⟩:=hv;have I1:Inv X pins σ H { s with heap:=h',toks:=tk }:=I.turned (λb o hb e=>kk b o (by simpa using hb) e) f0 f1 f3 f4 f5;refine⟨_,rfl,qU (s:={ s with heap:=h',toks:=tk }) (n:="range_iterator") st' rfl rfl (by decide) ⟨.int ((2*i:Nat):Int),H,I1,⟨t,?_⟩,⟨rfl,rfl⟩,st',λb hb=>(hf b hb).1⟩⟩;congr 1;lia
 done:=by
  intro X hP hw hK hc i pins s σ H E I hf st hg;subst hP hw hK;obtain⟨f0,f1,f2,f3,f4,f5⟩:=hf it (by simp);exact wpAny_pyNext_range_end (I.ok.hd hc) st (by have:(n+1) / 2<=i:=hg;lia) λh' eb=>⟨rfl,I.turned (t':=s.toks) (λb o hb e=>eb b o hb e) f0 f1 f3 f4 f5⟩
 self:=λ_ _ _ _ _ st h=>wpAny_pyIter_rangeiter st h
section
variable{X:Cx}{tg a b c:Expr}{t:TA}{p pos:Pos}
def Ch(t:TA):TI:=λσ H R=>t σ H λvs H1=>∃n:Nat,vs=[.int 0,.int (n:Nat),.int 2]/\n<=1000/\R (It2 n) H1
theorem uc (hg:Gl X "range") (hm:X.mg "range" = none) (ha:QA X [a,b,c] t) (hn:bQ a=true:=by rfl) (hn2:bQ b=true:=by rfl) (hn3:bQ c=true:=by rfl):QI X tg (.Call (.Name "range" p) [a,b,c] [] pos) (Ch t):=by
 refine⟨λpins s σ H R I h=>?_⟩;have e3:starEach [c] X.env=[(false,eval c X.env)]:=aC hn3;have e2:starEach [b,c] X.env=[(false,eval b X.env),(false,eval c X.env)]:=by rw[aC hn2,e3]
 refine Call_ (dh I hg hm boot_range (Hz (thn (ha.out pos pins s σ H _ I h) λus s1 ⟨vs,H1,I1,r1,q1⟩=>?_) (aC hn) (by rw[e2];rfl)));obtain⟨n,e,hn1,q⟩:=q1;subst e;cases r1 with
 | cons r rr=>
  cases rr with
  | cons r' rr=>
   cases rr with
   | cons r'' rr=>
    cases rr;obtain⟨t1,rfl⟩:=r;obtain⟨t2,rfl⟩:=r';obtain⟨t3,rfl⟩:=r'';refine call_range_3 (by decide) ?_ (.inl (JY (by decide +kernel)));refine wpAny_pyIter_range (Mr ..) (Cg hn1) ?_;have I2:Inv X pins σ H1 { s1 with heap:=s1.heap.push { cls:=.type "range",data:=.fields #[.int 0 t1,.int ((n:Nat):Int) t2,.int 2 t3] },toks:=s1.toks }:=I1.kept λb o e=>GD _ e
    refine⟨_,[(s1.heap.push { cls:=.type "range",data:=.fields #[.int 0 t1,.int ((n:Nat):Int) t2,.int 2 t3] }).objs.size],_,_,H1,rfl,I2.kept (t':=s1.toks) λb o e=>GD _ e,o8 _ n,?_,λb hb=>?_,q⟩
    ·show IsRangeIter _ _ ((0:Int)+((0:Nat):Int)*2) ((((n+1) / 2:Nat):Int) - ((0:Nat):Int)) 2
     have g1:(0:Int)+((0:Nat):Int)*2=0:=by simp
     have g2:(((n+1) / 2:Nat):Int) - ((0:Nat):Int)=Ia 0 (n:Int) 2:=by rw[Cf];simp
     rw[g1,g2];exact GT _ rfl
    ·have e:b=(s1.heap.push { cls:=.type "range",data:=.fields #[.int 0 t1,.int ((n:Nat):Int) t2,.int 2 t3] }).objs.size:=by simpa using hb
     subst e;exact I2.fpOk (GF _) (I2.hok.fresh (GF _))
end
theorem EG{H:Hp}{t:TA}{R:It->Hp->Prop}(h:t σ H λvs H1=>∃n:Nat,vs=[.int 0,.int (n:Nat),.int 2]/\n<=1000/\R (It2 n) H1):Ch t σ H R:=h
section
variable{X:Cx}{e o b:Expr}{to tb te:TE}{pos tpos:Pos}
def Ci(K:GC):V->V->Hp->VK->Prop:=λo i H Q=>∃a xs v,o=.ref a/\i=.int (-1)/\SqL K H a xs/\xs.getLast? = some v/\Q v H
theorem ud:DL X (Ci X.K):=by
 intro pins s σ H o i ov iv Q I ro ri h;obtain⟨a,xs,v,rfl,rfl,hq,hv,q⟩:=h;cases ro;obtain⟨t,rfl⟩:=ri;obtain⟨its,r,pl,hz⟩:=I.list hq;have hl:=r.length;have hn:=gC;have hne:xs≠[]:=λz=>by rw[z]at hv;cases hv
 have hpos:0<xs.length:=Iy.mpr hne;rw[List.getLast?_eq_getElem?]at hv;obtain⟨w,ew,rw'⟩:=r.get hv;have hj:((-1:Int)+(its.toArray.size:Int)).toNat=xs.length - 1:=by rw[GO];lia
 exact wpAny_getItem_list_neg pl.isList (by decide) (by rw[GO]<;>lia) (by decide) (by rw[hj];simpa using ew) ⟨v,H,I,rw',q⟩
theorem xa{K:GC}(ho:QE X o to)(hi:QE X b tb)(he:QE X e te)(ha:∀ov iv new,augStore b ov iv new=(do Qo [new,ov,iv] (setItem ov iv new);release [new,ov,iv] [];pure .next):=by intros;rfl)(hK:X.K=K:=by rfl):
  QS X (.AugAssign (.Subscript o b tpos) .Add e pos) (wm to tb te (Ci K) (ipI λi j=>i+j) rf):=by subst hK;exact⟨sv ho.out hi.out ud he.out yg lw ha⟩
end
end L2
namespace HT
open PySem PyProof.Rows L2
section
variable{prog:Program}{w:World}{A:Around}{E:Value->Shared->Prop}{s:Shared}
theorem iw{t:Addr}{lo hi:Option Int}(ht:IsTup s.heap t items)(hs:s.heap.IsSliceOf sl vl vu .none)(pl:IsPart vl lo)(pu:IsPart vu hi)
  (hw:sIx items.size 0 lo=0/\sIx items.size items.size hi=items.size) (h:Q (.ref t) s):wpAny (model prog w) A (getItem (.ref t) (.ref sl)) Q E s:=by
 obtain⟨os,hos,hcs,hds⟩:=id hs;have hTs:s.TypeIs (.ref sl) "slice":=⟨os,hos,hcs⟩;unfold getItem
 try with_reducible refine P7 ?_
 first|refine P2 (P3 ?_)|skip
 refine P2 (wpAny_sequenceKey ht.typeIs (by decide) ?_);refine P2 (Qk (name:=Hi "__getitem__") ht.typeIs HZ
  (Qg HZ ht.typeIs entry_tuple_getitem ?_ (args_tuple_getitem _ _)))
 show wpAny _ _ (Ll (.ref t) >>= _) _ _ s
 refine P2 (tupleItemsOf_ ht ?_);refine P2 (QF hTs ?_);rw[if_pos (by decide)];refine P2 (eR hs pl pu ?_);have hyes:(((sIx items.size 0 lo:Nat):Int) == 0 && (1:Int) == 1 && (sIx items.size items.size hi - sIx items.size 0 lo) == items.size)=true:=by
  rw[hw.1,hw.2];simp
 show wpAny _ _ (if(((sIx items.size 0 lo:Nat):Int) == 0 && (1:Int) == 1 && (sIx items.size items.size hi - sIx items.size 0 lo) == items.size)=true then _ else _) _ _ s
 rw[if_pos hyes];refine P2 (P2 (QF ht.typeIs (P3 ?_)));rw[if_pos (by decide)];refine P2 (wpAny_rule ?_);exact P3 ⟨_,rfl,P3 h⟩
end
end HT
namespace L2
open PySem PySem.Spec PyProof.Rows
section
variable{X:Cx}{tg a b:Expr}{t:TA}{p pos:Pos}
def Cj:V->Option Int->Option Int->Hp->VK->Prop:=λx lo hi H Q=>∃a xs,x=.ref a/\H a=some (.tup xs)/\∀p H',Same H H'->H' p=some (.tup (kU xs lo hi))->Q (.ref p) H'
theorem zQ:SlR X Cj:=by
 intro pins s σ H x v vl vu lo hi sl Q I rx hs pl pu h;obtain⟨a,xs,rfl,hx,q⟩:=h;by_cases hw:HT.sIx xs.length 0 lo=0/\HT.sIx xs.length xs.length hi=xs.length
 ·cases rx
  obtain⟨its,r,ht,hz⟩:=I.tuple (PQ hx);have hlen:its.toArray.size=xs.length:=by rw[GO];exact r.length.symm
  refine⟨"tuple",_,HZ.lookup,ht.typeIs,?_⟩;refine HT.iw ht hs pl pu (by rw[hlen];exact hw) ⟨.ref a,H,I,rfl,q a H (PV H) ?_⟩;rw[hx];unfold kU;rw[hw.1,hw.2,Ht,LP,GJ (GF _)]
 ·exact BB pins s σ H _ v vl vu lo hi sl Q I rx hs pl pu ⟨a,xs,rfl,PQ hx,hw,λp hp=>q p _ ((PV H).new hp) aa⟩
theorem yB:QSl X Cj:=⟨zQ⟩
end
section
variable{K:GC}{σ:St}{H:Hp}{Q:VK}
end
noncomputable def rnd:Nat->List Nat->List eS×List Nat
 | f,a::b::r=>((f,f+a,f+a+b)::(rnd (f+a+b) r).1,(a+b)::(rnd (f+a+b) r).2)
 | _,[a]=>([],[a])
 | _,[]=>([],[])
theorem iz(f a b:Nat)(r:List Nat):rnd f (a::b::r)=((f,f+a,f+a+b)::(rnd (f+a+b) r).1,(a+b)::(rnd (f+a+b) r).2):=by rw[rnd]
theorem iA(f a:Nat):rnd f [a]=([],[a]):=by rw[rnd]
theorem fg(f:Nat):rnd f []=([],[]):=by rw[rnd]
theorem jM(f:Nat)(ls:List Nat):(rnd f ls).2.length=(ls.length+1) / 2/\(rnd f ls).1.length+(rnd f ls).2.length=ls.length:=by
 induction f,ls using rnd.induct with
 | case1 f a b r ih=>rw[iz];simp only[Hh];lia
 | case2 f a=>rw[iA];simp
 | case3 f=>rw[fg];simp
theorem ue(f:Nat)(ls:List Nat):(rnd f ls).2.sum=ls.sum:=by
 induction f,ls using rnd.induct with
 | case1 f a b r ih=>rw[iz];simp only[IB];lia
 | case2 f a=>rw[iA]
 | case3 f=>rw[fg]
theorem Ck(f:Nat)(ls:List Nat):∀s∈(rnd f ls).1,f<=s.1/\s.1<=s.2.1/\s.2.1<=s.2.2/\s.2.2<=f+ls.sum:=by
 induction f,ls using rnd.induct with
 | case1 f a b r ih=>
  rw[iz];intro s hs;rcases GW.mp hs with e|e
  ·rw[e];simp only[IB];lia
  ·have:=ih s e
   simp only[IB];lia
 | case2 f a=>rw[iA];intro s hs;cases hs
 | case3 f=>rw[fg];intro s hs;cases hs
noncomputable def fS(ls:List Nat):List eS:=if h:1<ls.length then(rnd 0 ls).1++fS (rnd 0 ls).2 else[]
termination_by ls.length
decreasing_by have:=(jM 0 ls).1;lia
theorem jN{ls:List Nat}(h:1<ls.length):fS ls=(rnd 0 ls).1++fS (rnd 0 ls).2:=by rw[fS,dif_pos h]
theorem gT{ls:List Nat}(h:¬ 1<ls.length):fS ls=[]:=by rw[fS,dif_neg h]
theorem lg:∀(m:Nat) (ls:List Nat),ls.length<=m->(fS ls).length<=ls.length/\∀s∈fS ls,s.1<=s.2.1/\s.2.1<=s.2.2/\s.2.2<=ls.sum
 | 0,ls,h=>by rw[gT ⋯];exact⟨GR _,λs hs=>nomatch hs⟩
 | m+1,ls,h=>by
  by_cases g:1<ls.length
  ·obtain⟨l1,l2⟩:=jM 0 ls
   obtain⟨h1,h2⟩:=lg m (rnd 0 ls).2 ⋯;rw[jN g];refine⟨by rw[GZ];lia,λs hs=>?_⟩;rcases G9.mp hs with e|e
   ·have:=Ck 0 ls s e;lia
   ·have:=h2 s e
    rw[ue]at this;exact this
  ·rw[gT g];exact⟨GR _,λs hs=>nomatch hs⟩
noncomputable def brk(rss:List (List Nat))(k:Nat):Bool:=lxt (rss.getD k []) (rss.getD (k - 1) [])
noncomputable def A3(xs:List Nat):List Nat:=xs.set (xs.length - 1) (xs.getLastD 0+1)
noncomputable def bo(rss:List (List Nat)):Nat->List Nat
 | 0=>[]
 | m+1=>if 0<m/\brk rss m=false then A3 (bo rss m)else bo rss m++[1]
theorem jO(xs:List Nat)(a:Nat):A3 (xs++[a])=xs++[a+1]:=by
 unfold A3;rw[GZ,HX,Ld,List.getLastD_concat];simp
theorem jP(rss:List (List Nat))(m:Nat):bo rss (m+1)≠[]:=by
 induction m with
 | zero=>rw[bo,if_neg ⋯];simp
 | succ m ih=>
  rw[bo];split
  ·unfold A3
   intro z;have:=congrArg Jz z;rw[Mk]at this;exact ih (Ib.mp this)
  ·simp
theorem o9{xs:List Nat}(h:xs≠[]):∃ys a,xs=ys++[a]:=by
 rcases KD xs with e|⟨ys,a,e⟩
 ·exact absurd e h
 ·exact⟨ys,a,by rw[e,MF]⟩
theorem gU(rss:List (List Nat))(m:Nat):(bo rss m).sum=m:=by
 induction m with
 | zero=>rfl
 | succ m ih=>
  rw[bo];split
  ·rename_i h
   obtain⟨m',rfl⟩:∃m',m=m'+1:=⟨m - 1,by lia⟩
   obtain⟨ys,a,e⟩:=o9 (jP rss m');rw[e,jO];rw[e]at ih;simp at ih ⊢;lia
  ·simp[ih]
theorem jQ(rss:List (List Nat))(m:Nat):(bo rss m).length<=m:=by
 induction m with
 | zero=>exact GF _
 | succ m ih=>
  rw[bo];split
  ·unfold A3;rw[Mk];lia
  ·rw[GZ,HX];lia
theorem zR(os:List Nat)(h:i<os.length):kU (NV os) (some ((i:Nat):Int)) (some ((i+2:Nat):Int))=NV ((os.drop i).take 2):=by
 unfold kU;rw[HT.fZ,HT.fZ,aw,Jw (by lia:i<=os.length)];unfold NV;rw[Kr,Lp];by_cases g:i+2<=os.length
 ·rw[Jw g];congr 1;lia
 ·rw[Nat.min_eq_right ⋯,GJ (by rw[Ig,GA];lia),GJ (by rw[Ig,GA];lia)]
end L2
namespace L2
open PySem PySem.Spec PyProof.Rows PySem.W
noncomputable def Sat(N:Nat)(lt:Nat->Nat->Bool){α:Type}:KasT α->(α->Prop)->Prop
 | .ret a,R=>R a
 | .ask i j k,R=>i<N/\j<N/\Sat N lt (k (lt i j)) R
theorem Sat.mono{N:Nat}{lt:Nat->Nat->Bool}{α:Type}{R R':α->Prop}(hR:∀a,R a->R' a):∀(t:KasT α),Sat N lt t R->Sat N lt t R'
 | .ret _,h=>hR _ h
 | .ask i j k,h=>⟨h.1,h.2.1,Sat.mono hR (k (lt i j)) h.2.2⟩
theorem Sat.bind{N:Nat}{lt:Nat->Nat->Bool}{α β:Type}{R:α->Prop}{R':β->Prop}{f:α->KasT β}(hf:∀a,R a->Sat N lt (f a) R'):∀(t:KasT α),Sat N lt t R->Sat N lt (t.bind f) R'
 | .ret a,h=>hf a h
 | .ask i j k,h=>⟨h.1,h.2.1,Sat.bind hf (k (lt i j)) h.2.2⟩
theorem Sat.wp{N:Nat}{lt:Nat->Nat->Bool}{α:Type}{R:α->Prop}{I:Shared->Prop}{cmp:Nat->Nat->(Bool->Shared->Prop)->Shared->Prop}
  (hc:∀i j (C:Bool->Shared->Prop) s,i<N->j<N->I s->(∀s',I s'->C (lt i j) s')->cmp i j C s){Q:α->Shared->Prop} :
  ∀(t:KasT α) (s:Shared),Sat N lt t R->I s->(∀a s',R a->I s'->Q a s')->t.kasWp cmp Q s
 | .ret a,s,h,hi,hq=>hq a s h hi
 | .ask i j k,s,h,hi,hq=>hc i j _ s h.1 h.2.1 hi λs' hi'=>Sat.wp hc (k (lt i j)) s' h.2.2 hi' hq
structure Lt (lt:Nat->Nat->Bool):Prop where
 asym:∀i j,lt i j=true->lt j i=false
 tr:∀i j k,lt i j=false->lt j k=false->lt i k=false
def Ah(lt:Nat->Nat->Bool)(i j:Nat):Prop:=lt j i=false/\(lt i j=false->i<j)
theorem Ah.of_lt{lt:Nat->Nat->Bool}(H:Lt lt)(h:lt i j=true):Ah lt i j:=⟨H.asym i j h,λh'=>by rw[h]at h';cases h'⟩
theorem Ah.trans{lt:Nat->Nat->Bool}(H:Lt lt){k:Nat}(a:Ah lt i j)(b:Ah lt j k):Ah lt i k:=by
 refine⟨H.tr k j i b.1 a.1,λh=>?_⟩;have h1:lt i j=false:=H.tr i k j h b.1;have h2:lt j k=false:=H.tr j i k a.1 h;exact JZ (a.2 h1) (b.2 h2)
theorem pb{lt:Nat->Nat->Bool}(H:Lt lt){k:Nat}(h:lt i j=true)(h':lt k j=false):lt i k=true:=by
 cases e:lt i k with
 | true=>rfl
 | false=>rw[H.tr i k j e h']at h;cases h
theorem xb{lt:Nat->Nat->Bool}(H:Lt lt){k:Nat}(h:lt i j=true)(h':lt i k=false):lt k j=true:=by
 cases e:lt k j with
 | true=>rfl
 | false=>rw[H.tr i k j h' e]at h;cases h
section
variable{N:Nat}{lt:Nat->Nat->Bool}
structure Pm (N:Nat) (p:Array Nat):Prop where
 sz:p.size=N
 bd:∀i,i<N->p.getD i 0<N
 inj:∀i j,i<N->j<N->p.getD i 0=p.getD j 0->i=j
theorem lL{p:Array Nat}(h:p.Perm (Hk (GH N))):Pm N p:=by
 have hp:p.toList.Perm (GH N):=by simpa using Lq.mp h
 have hs:p.size=N:=by rw[<-Ii,hp.length_eq,HH]
 have hn:p.toList.Nodup:=hp.nodup_iff.mpr NI;refine⟨hs,λi hi=>?_,λi j hi hj e=>?_⟩
 ·have hi':i<p.size:=by lia
  have:p[i]∈p.toList:=MP.mpr (Array.getElem_mem hi');have h2:=hp.mem_iff.mp this;rw[show p.getD i 0=p[i]by simp[KQ,hi']];exact Hj.mp h2
 ·have hi':i<p.size:=by lia
  have hj':j<p.size:=by lia
  rw[show p.getD i 0=p[i]by simp[KQ,hi'],show p.getD j 0=p[j]by simp[KQ,hj']]at e;have e':p.toList[i]'(by simpa using hi')=p.toList[j]'(by simpa using hj'):=by simpa using e
  have hq:=Hq.mp hn;rcases Ij i j with x|x|x
  ·exact absurd e' (hq i j _ _ x)
  ·exact x
  ·exact absurd e'.symm (hq j i _ _ x)
theorem cM{p:Array Nat}(hj:j<=p.size)(k:Nat):(kas_rev p i j).getD k 0=if i<=k/\k<j then p.getD (i+j - 1 - k) 0 else p.getD k 0:=by
 have h:=getElem?_mirror_all (i:=i) hj k;rw[IW,IW,IW];show((mirror p i j ((j - i) / 2))[k]?).getD 0=_
 rw[h];split<;>rfl
theorem lM{p:Array Nat}{k l:Nat}(hk:k<p.size)(hl:l<=k)(i:Nat):(bubble p k (k - l)).getD i 0=if i=l then p.getD k 0 else if l<i/\i<=k then p.getD (i - 1) 0 else p.getD i 0:=by
 have h:=getElem?_bubble hk (k - l) ⋯ i;have e:k - (k - l)=l:=by lia
 rw[e]at h;simp only[IW];rw[h]
 repeat' split
 all_goals rfl
theorem jm{p:Array Nat}(i j:Nat)(h:p.Perm (Hk (GH N))):(kas_rev p i j).Perm (Hk (GH N)):=(mirror_perm _ _ _ _).trans h
theorem xf{p:Array Nat}(i j:Nat)(h:p.Perm (Hk (GH N))):(bubble p i j).Perm (Hk (GH N)):=(bubble_perm _ _ _).trans h
def Tl(N:Nat)(p:Array Nat)(m:Nat):Prop:=∀i,m<=i->i<N->p.getD i 0=i
theorem Pm.lo{p:Array Nat}(P:Pm N p)(T:Tl N p m)(hi:i<m)(hm:m<=N):p.getD i 0<m:=by
 rcases Iz (p.getD i 0) m with h|h
 ·exact h
 ·have h2:=T _ h (P.bd i ⋯)
  have:=P.inj _ _ (P.bd i ⋯) ⋯ h2;lia
def Up(lt:Nat->Nat->Bool)(p:Array Nat)(m:Nat):Prop:=∀i,0<i->i<m->Ah lt (p.getD (i - 1) 0) (p.getD i 0)
theorem Up.all(H:Lt lt){p:Array Nat}{m:Nat}(U:Up lt p m):∀d i,i+d+1<m->Ah lt (p.getD i 0) (p.getD (i+d+1) 0)
 | 0,i,h=>U (i+1) ⋯ h
 | d+1,i,h=>(Up.all H U d i ⋯).trans H (U (i+d+1+1) ⋯ h)
theorem Up.at(H:Lt lt){p:Array Nat}(U:Up lt p m)(h:i<j)(hj:j<m):Ah lt (p.getD i 0) (p.getD j 0):=by
 have:=U.all H (j - i - 1) i ⋯;rw[show i+(j - i - 1)+1=j by lia]at this;exact this
theorem pc{p:Array Nat}(hb:∀i,i<N->p.getD i 0<N):∀(f n:Nat),1<=n->n+f<=N->
  Sat N lt (kas_asc p f n) (λm=>n<=m/\m<=n+f/\(∀i,n<=i->i<m->lt (p.getD i 0) (p.getD (i - 1) 0)=false)/\(m<n+f->lt (p.getD m 0) (p.getD (m - 1) 0)=true))
 | 0,n,_,_=>⟨GF _,GF _,λi a b=>by lia,λh=>by lia⟩
 | f+1,n,h1,hN=>by
  refine⟨hb _ ⋯,hb _ ⋯,?_⟩;cases e:lt (p.getD n 0) (p.getD (n - 1) 0)with
  | true=>
   simp only[if_true];exact⟨GF _,by lia,λi a b=>by lia,λ_=>e⟩
  | false=>
   simp only[Hm,if_false];refine Sat.mono (λm hm=>?_) _ (pc hb f (n+1) ⋯ ⋯);obtain⟨a,b,c,d⟩:=hm;refine⟨by lia,by lia,λi hi him=>?_,λh=>d ⋯⟩;rcases Ni hi with rfl|h
   ·exact e
   ·exact c i h him
structure Dn (N:Nat) (lt:Nat->Nat->Bool) (p:Array Nat) (n q:Nat):Prop where
 perm:p.Perm (Hk (GH N))
 tl:Tl N p n
 fall:∀i,0<i->i+(q+1)<n->Ah lt (p.getD i 0) (p.getD (i - 1) 0)
 like:∀i,n<=i+q->i<n->Ah lt (p.getD (i - 1) 0) (p.getD i 0)/\lt (p.getD (i - 1) 0) (p.getD i 0)=false
 join:∀i,0<i->i+(q+1)=n->lt (p.getD i 0) (p.getD (i - 1) 0)=true
 len:q+1<=n
 top:n<=N
theorem Dn.alike(H:Lt lt){p:Array Nat}{n q:Nat}(D:Dn N lt p n q):∀d i j,i+d=j->n<=i+q+1->j<n->lt (p.getD i 0) (p.getD j 0)=false/\lt (p.getD j 0) (p.getD i 0)=false
 | 0,i,j,e,h1,h2=>by
  have:i=j:=by lia
  subst this;cases e:lt (p.getD i 0) (p.getD i 0)with
  | false=>exact⟨rfl,rfl⟩
  | true=>have:=H.asym _ _ e;rw[e]at this;cases this
 | d+1,i,j,e,h1,h2=>by
  obtain⟨a,b⟩:=Dn.alike H D d i (j - 1) ⋯ h1 ⋯;obtain⟨⟨c,_⟩,c'⟩:=D.like j ⋯ h2;exact⟨H.tr _ _ _ a c',H.tr _ _ _ c b⟩
theorem Dn.turn(H:Lt lt){p:Array Nat}{q:Nat}(D:Dn N lt p n q):Tl N (kas_rev p (n - (q+1)) n) n/\(∀i,0<i->i<n->Ah lt ((kas_rev p (n - (q+1)) n).getD i 0) ((kas_rev p (n - (q+1)) n).getD (i - 1) 0))/\
  (∀x,lt x (p.getD (n - 1) 0)=true->lt x ((kas_rev p (n - (q+1)) n).getD (n - 1) 0)=true):=by
 have P:=lL D.perm;have hn:n<=p.size:=by rw[P.sz];exact D.top
 have hl:=D.len;refine⟨λi h1 h2=>?_,λi h1 h2=>?_,λx hx=>?_⟩
 ·rw[cM hn,if_neg ⋯];exact D.tl i h1 h2
 ·rw[cM hn,cM hn]
  by_cases c1:n - (q+1)<=i
  ·rw[if_pos ⟨c1,h2⟩]
   by_cases c2:n - (q+1)<=i - 1
   ·rw[if_pos ⟨c2,by lia⟩]
    have:=(D.like (n - (q+1)+n - 1 - (i - 1)) ⋯ ⋯).1;rw[show n - (q+1)+n - 1 - (i - 1) - 1=n - (q+1)+n - 1 - i by lia]at this;exact this
   ·rw[if_neg ⋯]
    have ei:i=n - (q+1):=by lia
    rw[show n - (q+1)+n - 1 - i=n - 1 by lia];have j:=D.join i h1 ⋯;have k:=(D.alike H (n - 1 - i) i (n - 1) ⋯ ⋯ ⋯).1;exact Ah.of_lt H (xb H j k)
  ·rw[if_neg ⋯,if_neg ⋯]
   exact D.fall i h1 ⋯
 ·rw[cM hn,if_pos ⋯,show n - (q+1)+n - 1 - (n - 1)=n - (q+1)by lia]
  have k:=(D.alike H (n - 1 - (n - (q+1))) (n - (q+1)) (n - 1) ⋯ ⋯ ⋯).1;exact pb H hx k
theorem jn(H:Lt lt):∀(f:Nat) (p:Array Nat) (n q:Nat),Dn N lt p n q->n+f<=N->
  Sat N lt (kas_desc f p n q) (λr=>Dn N lt r.1 r.2.1 r.2.2)
 | 0,p,n,q,D,_=>D
 | f+1,p,n,q,D,hN=>by
  have P:=lL D.perm;have hl:=D.len;have hn:n<=p.size:=by rw[P.sz];exact D.top
  refine⟨P.bd _ ⋯,P.bd _ ⋯,?_⟩;cases e:lt (p.getD n 0) (p.getD (n - 1) 0)with
  | true=>
   simp only[if_true];have step:∀p':Array Nat,p'.Perm (Hk (GH N))->Tl N p' n->(∀i,0<i->i<n->Ah lt (p'.getD i 0) (p'.getD (i - 1) 0))->lt (p'.getD n 0) (p'.getD (n - 1) 0)=true->Dn N lt p' (n+1) 0:=
    λp' a b c d=>⟨a,λi h1 h2=>b i ⋯ h2,λi h1 h2=>c i h1 ⋯,λi h1 h2=>by lia,
     λi h1 h2=>by(have:i=n:=⋯);subst this;exact d,by lia,by lia⟩
   by_cases hq:q > 0
   ·rw[if_pos hq]
    obtain⟨t1,t2,t3⟩:=D.turn H;refine jn H f _ (n+1) 0 (step _ (jm _ _ D.perm) t1 t2 ?_) ⋯;refine t3 _ ?_;rw[cM hn,if_neg ⋯];exact e
   ·rw[if_neg hq]
    have hq0:q=0:=by lia
    subst hq0;refine jn H f _ (n+1) 0 (step _ D.perm D.tl (λi h1 h2=>?_) e) ⋯;rcases Iz (i+1) n with h|h
    ·exact D.fall i h1 h
    ·exact Ah.of_lt H (D.join i h1 ⋯)
  | false=>
   simp only[Hm,if_false];refine⟨P.bd _ ⋯,P.bd _ ⋯,?_⟩;cases e2:lt (p.getD (n - 1) 0) (p.getD n 0)with
   | true=>
    simp only[if_true];exact D
   | false=>
    simp only[Hm,if_false];refine jn H f p (n+1) (q+1) ⟨D.perm,λi h1 h2=>D.tl i ⋯ h2,λi h1 h2=>D.fall i h1 ⋯,λi h1 h2=>?_,λi h1 h2=>D.join i h1 ⋯,by lia,by lia⟩ ⋯;rcases Iz i n with h|h
    ·exact D.like i ⋯ h
    ·have:i=n:=by lia
     subst this;refine⟨⟨e,λ_=>?_⟩,e2⟩;rw[D.tl i (GF _) ⋯];exact P.lo D.tl ⋯ D.top
structure Rn (N:Nat) (lt:Nat->Nat->Bool) (p:Array Nat) (m:Nat):Prop where
 perm:p.Perm (Hk (GH N))
 tl:Tl N p m
 up:Up lt p m
 top:m<=N
theorem Rn.longer(H:Lt lt){p:Array Nat}(R:Rn N lt p n)(h1:1<=n)(h:n<=m)(hm:m<=N)(ha:∀i,n<=i->i<m->lt (p.getD i 0) (p.getD (i - 1) 0)=false):Rn N lt p m:=by
 have P:=lL R.perm;refine⟨R.perm,λi a b=>R.tl i ⋯ b,λi a b=>?_,hm⟩;rcases Iz i n with c|c
 ·exact R.up i a c
 ·refine⟨ha i c b,λ_=>?_⟩
  rw[R.tl i c ⋯];exact P.lo (λj x y=>R.tl j ⋯ y) ⋯ ⋯
theorem rK(H:Lt lt){p:Array Nat}(hp:p.Perm (Hk (GH N)))(T:Tl N p n)(hn:n<=N)(F:∀i,0<i->i<n->Ah lt (p.getD i 0) (p.getD (i - 1) 0)):Rn N lt (kas_rev p 0 n) n:=by
 have P:=lL hp;have hs:n<=p.size:=by rw[P.sz];exact hn
 refine⟨jm _ _ hp,λi a b=>?_,λi a b=>?_,hn⟩
 ·rw[cM hs,if_neg ⋯];exact T i a b
 ·rw[cM hs,cM hs,if_pos ⋯,if_pos ⋯]
  have:=F (0+n - 1 - (i - 1)) ⋯ ⋯;rw[show 0+n - 1 - (i - 1) - 1=0+n - 1 - i by lia]at this;exact this
theorem nA(H:Lt lt){p:Array Nat}(h1:1<=n)(hp:p.Perm (Hk (GH N)))(T:Tl N p n)(hn:n<=N)(F:∀i,0<i->i<n->Ah lt (p.getD i 0) (p.getD (i - 1) 0)):
  Sat N lt (kas_tail3 n N p) (λr=>1<=r.1/\Rn N lt r.2 r.1):=by
 have R:=rK H hp T hn F;refine Sat.bind (λm hm=>?_) _ (pc (lL R.perm).bd (N - n) n h1 ⋯);exact⟨by show 1<=m;lia,R.longer H h1 hm.1 ⋯ hm.2.2.1⟩
theorem iV(H:Lt lt){p:Array Nat}(D:Dn N lt p (n+1) 0):Sat N lt (kas_descPart n N p) (λr=>1<=r.1/\Rn N lt r.2 r.1):=by
 have:=D.top;refine Sat.bind (λr D'=>?_) _ (jn H (N - (n+1)) p (n+1) 0 D ⋯);have hl:=D'.len;by_cases hq:r.2.2 > 0
 ·rw[if_pos hq]
  obtain⟨t1,t2,_⟩:=D'.turn H;exact nA H ⋯ (jm _ _ D'.perm) t1 D'.top t2
 ·rw[if_neg hq]
  refine nA H ⋯ D'.perm D'.tl D'.top λi h1 h2=>?_
  rcases Iz (i+(r.2.2+1)) r.2.1 with h|h
  ·exact D'.fall i h1 h
  ·exact Ah.of_lt H (D'.join i h1 ⋯)
theorem bc(i:Nat)(h:i<N):(Hk (GH N)).getD i 0=i:=by
 simp[KQ,h]
theorem uf(H:Lt lt)(h1:1<=N):Sat N lt (kas_count N (Hk (GH N))) (λr=>1<=r.1/\Rn N lt r.2 r.1):=by
 have hp:(Hk (GH N)).Perm (Hk (GH N)):=PJ _;have P:=lL hp;have R1:Rn N lt (Hk (GH N)) 1:=⟨hp,λi a b=>bc i b,λi a b=>by lia,h1⟩;refine Sat.bind (λn hn=>?_) _ (pc P.bd (N - 1) 1 (GF _) ⋯);obtain⟨a,b,c,d⟩:=hn;have R:=R1.longer H (GF _) a ⋯ c;by_cases e:n=N
 ·rw[if_pos (by simp[e])];exact⟨a,R⟩
 ·rw[if_neg (by simp[e])]
  have dd:=d ⋯;rw[bc _ ⋯,bc _ ⋯]at dd;by_cases h:n > 1
  ·rw[if_pos h]
   refine⟨P.bd _ ⋯,P.bd _ ⋯,?_⟩;rw[bc _ ⋯,bc _ ⋯];cases e2:lt 0 (n - 1)with
   | true=>
    simp only[if_true];exact⟨a,R⟩
   | false=>
    simp only[Hm,if_false];have hs:n<=(Hk (GH N)).size:=by simp;lia
    have le:∀i j,i<j->j<n->lt j i=false:=λi j x y=>by
     have:=(R.up.at H x y).1
     rwa [bc _ ⋯,bc _ ⋯]at this
    have ge:∀i j,i<j->j<n->lt i j=false:=λi j x y=>by
     have p1:lt i 0=false:=by
      rcases J8 i with rfl|q
      ·cases e5:lt 0 0 with
       | false=>rfl
       | true=>have:=H.asym _ _ e5;rw[e5]at this;cases this
      ·exact le 0 i q ⋯
     have p2:lt (n - 1) j=false:=by
      rcases Iz j (n - 1)with q|q
      ·exact le j (n - 1) q ⋯
      ·have:j=n - 1:=by lia
       subst this;cases e5:lt (n - 1) (n - 1)with
       | false=>rfl
       | true=>have:=H.asym _ _ e5;rw[e5]at this;cases this
     exact H.tr _ _ _ p1 (H.tr _ _ _ e2 p2)
    have g:∀i,i<N->(kas_rev (Hk (GH N)) 0 n).getD i 0=if i<n then n - 1 - i else i:=λi hi=>by
     rw[cM hs];by_cases q:i<n
     ·rw[if_pos ⋯,if_pos q,bc _ ⋯];lia
     ·rw[if_neg ⋯,if_neg q,bc _ hi]
    refine iV H ⟨jm _ _ hp,λi x y=>?_,λi x y=>?_,λi x y=>by lia,λi x y=>?_,by lia,by lia⟩
    ·rw[g i y,if_neg ⋯]
    ·rw[g i ⋯,g (i - 1) ⋯,if_pos ⋯,if_pos ⋯]
     exact⟨le _ _ ⋯ ⋯,λ_=>by lia⟩
    ·have ei:i=n:=by lia
     subst ei;rw[g i ⋯,g (i - 1) ⋯,if_neg ⋯,if_pos ⋯,show i - 1 - (i - 1)=0 by lia];exact pb H dd e2
  ·rw[if_neg h]
   have:n=1:=by lia
   subst this;refine iV H ⟨hp,λi x y=>bc i y,λi x y=>by lia,λi x y=>by lia,λi x y=>?_,by lia,by lia⟩;have:i=1:=by lia
   subst this;rw[bc _ ⋯,bc _ ⋯];exact dd
theorem jR(H:Lt lt){p:Array Nat}{k:Nat}(R:Rn N lt p k)(hk:k<N):∀(f l r:Nat),l<=r->r<=k->r - l<=f->(∀i,i<l->lt k (p.getD i 0)=false)->(∀i,r<=i->i<k->lt k (p.getD i 0)=true)->
  Sat N lt (kas_place p k f l r) (λm=>m<=k/\(∀i,i<m->lt k (p.getD i 0)=false)/\(∀i,m<=i->i<k->lt k (p.getD i 0)=true))
 | 0,l,r,h1,h2,h3,a,b=>⟨by lia,a,λi x y=>b i ⋯ y⟩
 | f+1,l,r,h1,h2,h3,a,b=>by
  have P:=lL R.perm;unfold kas_place;by_cases h:l>=r
  ·rw[if_pos h]
   exact⟨by lia,a,λi x y=>b i ⋯ y⟩
  ·rw[if_neg h]
   refine⟨P.bd _ ⋯,P.bd _ ⋯,?_⟩;have ek:p.getD k 0=k:=R.tl k (GF _) hk;rw[ek];cases e:lt k (p.getD ((l+r) / 2) 0)with
   | true=>
    simp only[if_true];refine jR H R hk f l ((l+r) / 2) ⋯ ⋯ ⋯ a λi x y=>?_
    rcases Ni x with rfl|x
    ·exact e
    ·exact pb H e (R.up.at H x y).1
   | false=>
    simp only[Hm,if_false];refine jR H R hk f ((l+r) / 2+1) r ⋯ h2 ⋯ (λi x=>?_) b;rcases Iz i ((l+r) / 2)with y|y
    ·exact H.tr _ _ _ e (R.up.at H y ⋯).1
    ·have:i=(l+r) / 2:=by lia
     subst this;exact e
theorem Rn.put(H:Lt lt){p:Array Nat}{k:Nat}(R:Rn N lt p k)(hk:k<N)(hm:m<=k)(a:∀i,i<m->lt k (p.getD i 0)=false)(b:∀i,m<=i->i<k->lt k (p.getD i 0)=true):Rn N lt (bubble p k (k - m)) (k+1):=by
 have P:=lL R.perm;have hs:k<p.size:=by rw[P.sz];exact hk
 have ek:p.getD k 0=k:=R.tl k (GF _) hk;refine⟨xf _ _ R.perm,λi x y=>?_,λi x y=>?_,hk⟩
 ·rw[lM hs hm,if_neg ⋯,if_neg ⋯];exact R.tl i ⋯ y
 ·rw[lM hs hm,lM hs hm,ek]
  rcases Iz i m with c|c
  ·rw[if_neg ⋯,if_neg ⋯,if_neg ⋯,if_neg ⋯]
   exact R.up i x ⋯
  ·by_cases c1:i=m
   ·rw[if_neg ⋯,if_neg ⋯,if_pos c1]
    exact⟨a _ ⋯,λ_=>P.lo R.tl ⋯ ⋯⟩
   ·by_cases c2:i=m+1
    ·rw[if_pos ⋯,if_neg ⋯,if_pos ⋯]
     exact Ah.of_lt H (b _ ⋯ ⋯)
    ·rw[if_neg ⋯,if_pos ⋯,if_neg ⋯,if_pos ⋯]
     exact R.up (i - 1) ⋯ ⋯
theorem ug(H:Lt lt):∀(f:Nat) (p:Array Nat) (k:Nat),Rn N lt p k->k+f=N->Sat N lt (kas_bin f p k) (λr=>Rn N lt r N)
 | 0,p,k,R,h=>by
  have:k=N:=by lia
  subst this;exact R
 | f+1,p,k,R,h=>by
  refine Sat.bind (λm hm=>?_) _ (jR H R ⋯ k 0 k (GR _) (GF _) ⋯ (λi x=>by lia) λi x y=>by lia);exact ug H f _ (k+1) (R.put H ⋯ hm.1 hm.2.1 hm.2.2) ⋯
theorem xg(H:Lt lt)(h1:1<=N):Sat N lt (kas_sort N) (λr=>Rn N lt r N):=by
 refine Sat.bind (λr hr=>?_) _ (uf H h1);obtain⟨a,R⟩:=hr;have ht:=R.top;by_cases h:r.1<N
 ·rw[if_pos h,Nat.max_eq_left a]
  exact ug H _ _ _ R ⋯
 ·rw[if_neg h]
  have:r.1=N:=by lia
  rw[this]at R;exact R
theorem Rn.list(H:Lt lt){p:Array Nat}(R:Rn N lt p N):p.toList.Perm (GH N)/\p.toList.Pairwise (Ah lt):=by
 have P:=lL R.perm;refine⟨by simpa using Lq.mp R.perm,?_⟩;rw[Hq];intro i j hi hj hij;have hi':i<p.size:=by simpa using hi
 have hj':j<p.size:=by simpa using hj
 have:=R.up.at H hij (by rw[<-P.sz];exact hj');rw[show p.getD i 0=p[i]by simp[KQ,hi'],show p.getD j 0=p[j]by simp[KQ,hj']]at this;simpa using this
end
end L2
namespace HT
open PySem PyProof.Rows PySem.W L2
theorem uh{prog:Program}{w:World}{A:Around}{s:Shared}{κ:SortKind}{lt:Nat->Nat->Bool}{ks:List Value}{I:Shared->Prop}(hl:ks.length=vs.length)(h2:2<=vs.length)(H:Lt lt)(hI:I s)
  (hc:∀i j s',i<vs.length->j<vs.length->I s'->wpAny (model prog w) A (keyLt' κ (ks.getD i Hf) (ks.getD j Hf)) (λb s''=>b=lt i j/\I s'') (λ_ _=>False) s')
  (h64:vs.length<64:=by first|lia|(rw[IN];lia)) :
  wpAny (model prog w) A ((sortRuns').run (KR κ (ks.toArray.zip vs.toArray) #[] 7 none))
   (λr s'=>∃p:Array Nat,arrOf r.2=p.map (kas_item (ks.toArray.zip vs.toArray))/\failedOf r.2=none/\p.size=vs.length/\I s'/\p.toList.Perm (GH vs.length)/\p.toList.Pairwise (Ah lt)) E s:=by
 have ask:=Sat.wp (I:=I) (cmp:=kas_ask prog w A κ ks) (N:=vs.length) (lt:=lt) (Q:=λp s'=>I s'/\p.toList.Perm (GH vs.length)/\p.toList.Pairwise (Ah lt))
  (λi j C s' hi hj es hC=>P8 (hc i j s' hi hj es) (λb s'' hb=>by obtain⟨rfl,hb2⟩:=hb;exact hC _ hb2) λ_ _ z=>z) _ _ (xg H ⋯) hI (λp s' R es=>⟨es,R.list H⟩)
 refine P8 (kat_run (ks:=ks) (vs:=vs) (Q:=λst' s'=>∃p:Array Nat,arrOf st'=p.map (kas_item (ks.toArray.zip vs.toArray))/\failedOf st'=none/\p.size=vs.length/\I s'/\p.toList.Perm (GH vs.length)/\p.toList.Pairwise (Ah lt)) hl ⋯ h64
   (λp st' s' a1 a2 a3 a4=>⟨p,a2,a3,a1,a4⟩) ask) (λr s' hr=>hr) λ_ _ e=>e
section
variable{prog:Program}{w:World}{A:Around}{E:Value->Shared->Prop}{s:Shared}
theorem qw{R:Nat->Nat->Prop}(n:Nat)(h:n<2):(GH n).Pairwise R:=by
 match n,h with
 | 0,_=>exact .nil
 | 1,_=>exact Iv _ _
theorem lN {κ:SortKind}{lt:Nat->Nat->Bool}{P:Pz->Shared->Prop}(ho:s.heap.get? a=some (seqObj "list" vs.toArray n)) (h64:vs.length<64) (H:Lt lt)
  (hk:∀h' (Q:SortKind->Shared->Prop),2<=vs.length->(∀b o,b≠a->s.heap.get? b=some o->h'.get? b=some o)->Q κ { s with heap:=h' }->wpAny (model prog w) A (keyKind' vs.toArray) Q (λ_ _=>False) { s with heap:=h' })
  (hc:∀h' i j (Q:Bool->Shared->Prop),i<vs.length->j<vs.length->(∀b o,b≠a->s.heap.get? b=some o->h'.get? b=some o)->Q (lt i j) { s with heap:=h' }->
   wpAny (model prog w) A (keyLt' κ (vs.getD i Hf) (vs.getD j Hf)) Q (λ_ _=>False) { s with heap:=h' })
  (h:∀p:List Nat,p.Perm (GH vs.length)->p.Pairwise (Ah lt)->P (.done (.ret .none)) { s with heap:=sortedHeap s.heap a vs (Hk (p.map λi=>vs.getD i Hf)) }) :
  wpAny (model prog w) A (Builtin.«list.sort» ⟨[.ref a],[]⟩) P E s:=by
 rw[list_sort_plain];have ha:a<s.heap.objs.size:=GK ho;refine P2 (listItems_at ho rfl ?_);refine P2 (QJ ho rfl ?_ (by rw[GO,Qb];lia) (GR _));obtain⟨e1,ho1⟩:∃e1,(s.heap.update a (Hd λ_=>(#[]:Array Value))).get? a=some (seqObj "list" #[] e1):=⟨_,QH ho (λ_=>#[])⟩
 refine P2 (seqEpoch_at ho1 rfl ?_);refine P2 (wpAny_newTuple ?_ (by show vs.length<=_;rw[Qb];lia));refine P2 (wpAny_newList ?_ (GR _));refine P7 ?_;have ho6:(((s.heap.update a (Hd λ_=>(#[]:Array Value))).push (seqObj "tuple" vs.toArray 0)).push (seqObj "list" #[] 0)).get? a=some (seqObj "list" #[] e1):=by
  rw[Kn _ _ _ (by rw[QV,JP];exact GV (IJ ha)),Kn _ _ _ (by rw[JP];exact GV ha)];exact ho1
 have kp:∀b o,b≠a->s.heap.get? b=some o->(((s.heap.update a (Hd λ_=>(#[]:Array Value))).push (seqObj "tuple" vs.toArray 0)).push (seqObj "list" #[] 0)).get? b=some o:=λb o hb e=>by
  have hlt:=GK e;rw[Kn _ _ _ (by rw[QV,JP];exact GV (IJ hlt)),Kn _ _ _ (by rw[JP];exact GV hlt),Heap.get?_update_ne _ _ _ _ hb];exact e
 show wpAny (model prog w) A _ P E { s with heap:=((s.heap.update a (Hd λ_=>(#[]:Array Value))).push (seqObj "tuple" vs.toArray 0)).push (seqObj "list" #[] 0) }
 dsimp only;have hsz:vs.toArray.size=vs.length:=by simp
 by_cases h2:vs.toArray.size<2
 ·rw[if_pos h2,if_pos h2]
  refine P2 (P3 ?_);rw[NW];refine P2 (P3 ?_);dsimp only;refine P2 (seqEpoch_at ho6 rfl ?_);refine P2 (QJ ho6 rfl ?_ (GR _) (by rw[Array.size_map];show(pairsOf vs).size<=_;rw[pairsOf_size,Qb];lia));simp only[bne_self_eq_false,Hm,if_false];have:=h (GH vs.length) (Jh _) (qw _ ⋯);have eo:(arrOf (KR general' (vs.toArray.zip vs.toArray) #[] 7 none)).map (·.2)=Hk ((GH vs.length).map λi=>vs.getD i Hf):=by
   have e:=kas_range (vs.toArray.zip vs.toArray);rw[show(vs.toArray.zip vs.toArray).size=vs.length by simp]at e;have:=kat_snds (st:=KR general' (vs.toArray.zip vs.toArray) #[] 7 none) (ks:=vs) (vs:=vs) rfl e.symm;simpa using this
  rw[<-eo]at this;exact P3 this
 ·rw[if_neg h2,if_neg h2]
  refine P2 (P8 (hk _ (λκ' s'=>κ'=κ/\s'={ s with heap:=((s.heap.update a (Hd λ_=>(#[]:Array Value))).push (seqObj "tuple" vs.toArray 0)).push (seqObj "list" #[] 0) }) ⋯ kp ⟨rfl,rfl⟩) (λκ' s' hh=>?_) λ_ _ x=>x.elim);obtain⟨rfl,rfl⟩:=hh;refine P2 (P8 (uh (ks:=vs) (I:=λs'=>s'={ s with heap:=((s.heap.update a (Hd λ_=>(#[]:Array Value))).push (seqObj "tuple" vs.toArray 0)).push (seqObj "list" #[] 0) }) rfl ⋯ H rfl (λi j s' hi hj es=>by subst es;exact hc _ i j _ hi hj kp ⟨rfl,rfl⟩)) ?_ λ_ _ e=>e);rintro⟨⟨⟩,st'⟩ s' ⟨p,har,hf,hp,rfl,q1,q2⟩;dsimp only;have hout:=kat_snds rfl har;rw[hout];refine P2 (seqEpoch_at ho6 rfl ?_);refine P2 (QJ ho6 rfl ?_ (GR _) (by rw[GO,GA,Ii,hp,Qb];lia));rw[hf];simp only[bne_self_eq_false,Hm,if_false];exact P3 (h p.toList q1 q2)
theorem lO{fin:Bool}{Q:Bool->Shared->Prop}:∀{xs ys:List Value}{ns ms:List Int},P9 xs ns->P9 ys ms->∀(i:Nat) (b:Bool),fin=decide (ns.length<ms.length)->Q (aY ns ms) s->
  KatLex prog w A b fin Q (xs.zip ys) i s
 | _,_,_,_,.nil,.nil,i,b,e,h=>by subst e;exact h
 | _,_,_,_,.nil,.cons m u r,i,b,e,h=>by
  subst e;rw[Lu];refine kat_nil ?_;simpa using(show Q true s from h)
 | _,_,_,_,.cons n t r,.nil,i,b,e,h=>by
  subst e;rw[K9];refine kat_nil ?_;simpa using(show Q false s from h)
 | _,_,_,_,.cons n t r,.cons m u r',i,b,e,h=>by
  rw[IC];refine kat_cons (wpAny_eqBool_int ?_);rw[bb]at h;by_cases hn:n=m
  ·rw[if_pos hn]at h
   rw[show(n == m)=true by simp[hn]];exact kat_yes (lO r r' (i+1) b (by rw[e];simp) h)
  ·rw[if_neg hn]at h
   rw[show(n == m)=false by simp[hn]];refine kat_no ?_;cases(b && i == 0)with
   | true=>exact oneLt_int h
   | false=>exact kat_one _ _ (lt_int h)
theorem xh{x y:Addr}{its its2:Array Value}{ns:List Int}{b:Bool}{Q:Bool->Shared->Prop}(hx:IsTup s.heap x its)(hy:IsTup s.heap y its2)(hi:P9 its.toList ns)(hj:P9 its2.toList ms)(h:Q (aY ns ms) s):
  wpAny (model prog w) A (keyLt' (tuples' b) (.ref x) (.ref y)) Q E s:=by
 obtain⟨o,ho,hc,n,hd⟩:=id hx;obtain⟨o2,ho2,hc2,n2,hd2⟩:=id hy;refine kat_lt ho hd ho2 hd2 (lO hi hj 0 b ?_ h);rw[<-hi.length,<-hj.length];simp
theorem zS{x y:Addr}{its its2:Array Value}{ns:List Int}{Q:Bool->Shared->Prop}(hu:A.units<cLine)(hx:IsTup s.heap x its)(hy:IsTup s.heap y its2)(hi:P9 its.toList ns)(hj:P9 its2.toList ms)(h:Q (aY ns ms) s):
  wpAny (model prog w) A (keyLt' oneType' (.ref x) (.ref y)) Q E s:=by
 obtain⟨⟨cls,dd,data,sl⟩,ho,hc,n,hd⟩:=id hx;obtain⟨⟨cls2,dd2,data2,sl2⟩,ho2,hc2,n2,hd2⟩:=id hy;simp only at hc hd hc2 hd2;subst hc hd hc2 hd2;rw[keyLt'_oneType,oneLt'_eq];simp only[if_true];refine P2 (wpAny_cRoomFor hu ?_);refine P2 (wpAny_callSpecialIfBound?_slot (T:="tuple") ⟨_,ho,rfl⟩ KB (QU KB ⟨_,ho,rfl⟩ Mt (L0 _ _) (gF x y its its2 n n2 dd dd2 sl sl2 ns ms hi hj) ⟨ho,ho2,?_⟩));exact QK h
theorem xi{Q:SortKind->Shared->Prop}(h2:2<=vs.length)(ht:∀v∈vs,∃a,v=.ref a/\IsTup s.heap a #[])(h:Q oneType' s):
  wpAny (model prog w) A (keyKind' vs.toArray) Q E s:=by
 obtain⟨v₁,rest,rfl⟩:∃v₁ rest,vs=v₁::rest:=by
  match vs,h2 with
  | v₁::rest,_=>exact⟨v₁,rest,rfl⟩
 rw[kat_kind_eq,Nr,map_eq_pure_bind];refine P2 (P2 (kas_mapM (r:=none) _ (λv hv Q' hq=>?_) (P3 ?_)))
 ·obtain⟨a,rfl,o,ho,hc,n,hd⟩:=ht v hv
  rw[kas_first_eq];refine P2 (Looks.here (show Looks (model prog w) s.heap (typeOf (.ref a)) o.cls from(Looks.ld ho).andThen .now) ?_);rw[hc,if_neg (by first|decide|simp)];refine P2 (listItems_at ho hd (P3 ?_));exact hq
 ·rw[if_neg (by simp),if_neg (by simp)]
  rw[oneTypeOnly'_eq,Nr,map_eq_pure_bind];refine P2 (P2 (P2 (kas_mapM (r:=Im "tuple") _ (λv hv Q' hq=>?_) (P3 ?_))))
  ·obtain⟨a,rfl,o,ho,hc,n,hd⟩:=ht v hv
   refine Looks.here (show Looks (model prog w) s.heap (typeOf (.ref a)) (Im "tuple")from ?_) hq;rw[<-hc];exact(Looks.ld ho).andThen .now
  ·have hall:((OW (λ_=>Im "tuple") (v₁::rest)).toArray.all λx=>x == Im "tuple")=true:=by
    simp only[List.all_toArray,List.all_map,Jl];intro _ _;rfl
   have h0:(OW (λ_=>Im "tuple") (v₁::rest)).toArray[0]? = some (Im "tuple"):=by simp
   rw[h0];simp only[hall,if_true];exact P3 (P3 h)
theorem ui:∀{vs:List Value}{rss:List (List Int)},vs.length=rss.length->(∀(i:Nat) v r,vs[i]? = some v->rss[i]? = some r->∃a its,v=.ref a/\IsTup s.heap a its/\P9 its.toList r)->(∀r∈rss,r≠[])->
  ∃fs,KatTups s.heap vs fs/\fs.length=vs.length/\∀f∈fs,∃n t,f=JK n t
 | [],[],_,_,_=>⟨[],.nil,rfl,λ_ h=>nomatch h⟩
 | v::vs,r::rss,hl,h,hne=>by
  obtain⟨fs,k1,k2,k3⟩:=ui (vs:=vs) (rss:=rss) (by simpa using hl) (λi v r e1 e2=>h (i+1) v r (by simpa using e1) (by simpa using e2)) λr hr=>hne r (.tail _ hr)
  obtain⟨a,its,rfl,⟨o,ho,hc,n,hd⟩,hi⟩:=h 0 v r rfl rfl;have hr:=hne r (.head _);obtain⟨its'⟩:=its;cases hi with
  | nil=>exact absurd rfl hr
  | cons m t hi'=>exact⟨_::fs,KatTups.cons (f:=.int m t) ho hc hd (by simp) k1,by simp[k2],λf hf=>(GW.mp hf).elim (λe=>⟨m,t,e⟩) (k3 f)⟩
theorem uj{rss:List (List Int)}{Q:SortKind->Shared->Prop}(h2:2<=vs.length)(hl:vs.length=rss.length)(ht:∀(i:Nat) v r,vs[i]? = some v->rss[i]? = some r->∃a its,v=.ref a/\IsTup s.heap a its/\P9 its.toList r)(hne:∀r∈rss,r≠[])
  (h:Q (tuples' true) s):wpAny (model prog w) A (keyKind' vs.toArray) Q E s:=by
 obtain⟨fs,k1,k2,k3⟩:=ui hl ht hne;refine kat_kind (T:=Im "int") k1 ⋯ (λv hv=>?_) rfl h;obtain⟨n,t,rfl⟩:=k3 v hv;exact Looks.of_pure rfl
end
theorem dM(a:List Int):∀b,aY a b=true->aY b a=false:=by
 induction a with
 | nil=>intro b h;cases b<;>first|rfl|cases h
 | cons x xs ih=>
  intro b h;cases b with
  | nil=>cases h
  | cons y ys=>
   rw[bb]at h ⊢;by_cases e:x=y
   ·rw[if_pos e]at h;rw[if_pos e.symm];exact ih ys h
   ·rw[if_neg e]at h;rw[if_neg (Hx e)]
    have:=of_decide_eq_true h;exact decide_eq_false ⋯
theorem jS(a:List Int):∀b c,aY a b=false->aY b c=false->aY a c=false:=by
 induction a with
 | nil=>
  intro b c h1 h2;cases b with
  | nil=>exact h2
  | cons y ys=>cases h1
 | cons x xs ih=>
  intro b c h1 h2;cases c with
  | nil=>rfl
  | cons z zs=>
   cases b with
   | nil=>cases h2
   | cons y ys=>
    rw[bb]at h1 h2 ⊢;by_cases e:x=y
    ·subst e
     rw[if_pos rfl]at h1;by_cases e2:x=z
     ·subst e2;rw[if_pos rfl]at h2 ⊢;exact ih ys zs h1 h2
     ·rw[if_neg e2]at h2 ⊢;exact h2
    ·rw[if_neg e]at h1
     have h1:=of_decide_eq_false h1;by_cases e2:y=z
     ·subst e2;rw[if_neg e];exact decide_eq_false h1
     ·rw[if_neg e2]at h2
      have h2:=of_decide_eq_false h2;rw[if_neg ⋯];exact decide_eq_false ⋯
theorem Cl(rss:List (List Int)):Lt (λi j=>aY (rss.getD i []) (rss.getD j [])):=⟨λi j h=>dM _ _ h,λi j k h1 h2=>jS _ _ _ h1 h2⟩
end HT
namespace L2
open PySem PySem.Spec PyProof.Rows PySem.W
section
variable{X:Cx}
theorem nB:∀{rs:List Addr}{us:List Value},Vals (rs.map PY) us->us=rs.map Hb
 | [],_,.nil=>rfl
 | _::_,_,.cons r t=>by
  rw[Hg,<-nB t];cases r;rfl
theorem lP{f:Nat->V}{g:Nat->Value}:∀{p:List Nat},(∀i∈p,RelV (f i) (g i))->Vals (p.map f) (p.map g)
 | [],_=>.nil
 | i::p,h=>.cons (h i (.head _)) (lP λj hj=>h j (.tail _ hj))
end
section
variable{X:Cx}
end
end L2
namespace HT
open PySem PyProof.Rows PySem.W L2
section
variable{prog:Program}{w:World}{A:Around}{E:Value->Shared->Prop}{s:Shared}
end
theorem zT(ns:List Int):Lt (λi j=>decide (ns.getD i 0<ns.getD j 0)):=⟨λi j h=>by
 have:=of_decide_eq_true h;exact decide_eq_false ⋯,λi j k h1 h2=>by
 have a:=of_decide_eq_false h1;have b:=of_decide_eq_false h2;exact decide_eq_false ⋯⟩
theorem pd{ns:List Int}(h:P9 vs ns):∀{i:Nat},i<vs.length->∃t,vs.getD i Hf=.int (ns.getD i 0) t:=by
 induction h with
 | nil=>intro i hi;cases hi
 | cons n t h ih=>
  intro i hi;cases i with
  | zero=>exact⟨t,rfl⟩
  | succ i=>
   obtain⟨t',e⟩:=ih (i:=i) (by simpa using hi);exact⟨t',by simpa using e⟩
end HT
namespace L2
open PySem PySem.Spec PyProof.Rows PySem.W
theorem qx{α:Type}(xs:List α)(d:α):(GH xs.length).map (λi=>xs.getD i d)=xs:=by
 apply Kw
 ·simp
 ·intro i h1 h2
  simp[h2]
section
variable{X:Cx}
end
end L2
namespace L2
open PySem PySem.Spec PyProof.Rows
section
variable{X:Cx}{pins:List (Addr×Obj)}{σ:St}{H:Hp}{s:Shared}
end
section
variable{κ:Type}[DecidableEq κ]
noncomputable def nC(kvs:List (κ×V))(k:κ):Option V:=(kvs.find? λkv=>decide (kv.1=k)).map (·.2)
noncomputable def lQ(kvs:List (κ×V))(k:κ)(v:V):List (κ×V):=
 if(kvs.any λkv=>decide (kv.1=k))=true then kvs.map (λkv=>if kv.1=k then(kv.1,v)else kv)else kvs++[(k,v)]
theorem jo{p:κ×V}{r:List (κ×V)}{k:κ}(e:p.1=k):nC (p::r) k=some p.2:=by simp[nC,I0,e]
theorem gW{p:κ×V}{r:List (κ×V)}{k:κ}(e:¬p.1=k):nC (p::r) k=nC r k:=by simp[nC,I0,e]
theorem jp(k:κ):∀kvs:List (κ×V),(kvs.any λkv=>decide (kv.1=k))=(nC kvs k).isSome
 | []=>rfl
 | p::r=>by
  rw[MY];by_cases e:p.1=k
  ·simp only[jo e,decide_eq_true e,KM,Option.isSome_some]
  ·rw[gW e,decide_eq_false e,Jv];exact jp k r
theorem gg(kvs:List (κ×V))(k:κ)(v:V):(lQ kvs k v).length<=kvs.length+1:=by
 unfold lQ;split
 ·rw[GA];lia
 ·rw[GZ,Hh,Ie];lia
theorem xj{kvs:List (κ×V)}{k:κ}(v:V)(h:nC kvs k=none):lQ kvs k v=kvs++[(k,v)]:=by
 unfold lQ;rw[jp,h];exact if_neg (by decide)
theorem RelO.isSome_eq{o:Option V}{u:Option Value}(r:RelO o u):o.isSome=u.isSome:=by
 cases o with
 | none=>cases u with
  | none=>rfl
  | some _=>exact(show False from r).elim
 | some _=>cases u with
  | none=>exact(show False from r).elim
  | some _=>rfl
theorem RelO.getD{o:Option V}{u:Option Value}{d:V}{d':Value}(r:RelO o u)(rd:RelV d d'):RelV (o.getD d) (u.getD d'):=by
 cases o with
 | none=>cases u with
  | none=>exact rd
  | some _=>exact(show False from r).elim
 | some _=>cases u with
  | none=>exact(show False from r).elim
  | some _=>exact r
theorem KV.val{kvs:List (κ×V)}{vs:List (κ×Value)}(r:KV kvs vs)(k:κ):RelO (nC kvs k) (valueAt vs k):=by
 unfold KV at r
 induction r with
 | nil=>exact GL
 | @cons p q ps qs h t ih=>
  obtain⟨h1,h2⟩:=h;by_cases e:p.1=k
  ·have e':q.1=k:=h1.symm.trans e
   have b:valueAt (q::qs) k=some q.2:=by simp[valueAt,I0,e']
   rw[jo e,b];exact h2
  ·have e':¬q.1=k:=λz=>e (h1.trans z)
   have b:valueAt (q::qs) k=valueAt qs k:=by simp[valueAt,I0,e']
   rw[gW e,b];exact ih
theorem KV.any{kvs:List (κ×V)}{vs:List (κ×Value)}(r:KV kvs vs)(k:κ):(kvs.any λkv=>decide (kv.1=k))=vs.any λkv=>decide (kv.1=k):=by
 unfold KV at r
 induction r with
 | nil=>rfl
 | cons h t ih=>rw[MY,MY,ih,h.1]
theorem KV.repl{kvs:List (κ×V)}{vs:List (κ×Value)}(r:KV kvs vs)(k:κ)(ry:RelV y u):
  KV (kvs.map λkv=>if kv.1=k then(kv.1,y)else kv) (vs.map λkv=>if kv.1=k then(kv.1,u)else kv):=by
 unfold KV at r ⊢
 induction r with
 | nil=>exact .nil
 | @cons p q ps qs h t ih=>
  rw[Hg,Hg];refine .cons ?_ ih;obtain⟨h1,h2⟩:=h;by_cases e:p.1=k
  ·rw[if_pos e,if_pos (h1.symm.trans e)];exact⟨h1,ry⟩
  ·rw[if_neg e,if_neg (λz=>e (h1.trans z))];exact⟨h1,h2⟩
theorem KV.put{kvs:List (κ×V)}{vs:List (κ×Value)}(r:KV kvs vs)(k:κ)(ry:RelV y u):KV (lQ kvs k y) (stored vs k u):=by
 unfold lQ stored;rw[r.any k];by_cases e:(vs.any λkv=>decide (kv.1=k))=true
 ·rw[if_pos e,if_pos e];exact r.repl k ry
 ·rw[if_neg e,if_neg e];exact Pc r ⟨rfl,ry⟩
theorem KV.length{kvs:List (κ×V)}{vs:List (κ×Value)}(r:KV kvs vs):kvs.length=vs.length:=Lh r
end
theorem uk{w:World}{k:Key}(r:RelV (kV k) u):(aO P w).is k u=true:=by
 cases k with
 | inl i=>obtain⟨t,e⟩:=(show ∃t,u=JK i t from r);subst e;exact oy P w i t
 | inr x=>obtain⟨t,e⟩:=(show ∃t,u=K7 x t from r);subst e;exact oz P w x t
theorem nD{P:Program}{w:World}:∀{ks:List Key}{us:List Value},Vals (ks.map kV) us->ItemsAre (aO P w) ks us
 | [],_,r=>by rw[KI]at r;cases r;exact .nil
 | k::ks,_,r=>by
  rw[Hg]at r;cases r with
  | cons h t=>exact .cons (uk h) (nD t)
abbrev KT(H:Hp):List (List Key×V)->List (List Key×Addr×Value)->Prop:=Paired λp q=>p.1=q.1/\H q.2.1=some (.tup (p.1.map kV))/\RelV p.2 q.2.2
theorem KT.val{H:Hp}{kvs:List (List Key×V)}{xs:List (List Key×Addr×Value)}(r:KT H kvs xs)(k:List Key):RelO (nC kvs k) ((atKey xs k).map (·.2)):=by
 induction r with
 | nil=>exact GL
 | @cons p q ps qs h t ih=>
  obtain⟨h1,_,h2⟩:=h;by_cases e:p.1=k
  ·have e':q.1=k:=h1.symm.trans e
   have b:atKey (q::qs) k=some q.2:=by simp[atKey,I0,e']
   rw[jo e,b];exact h2
  ·have e':¬q.1=k:=λz=>e (h1.trans z)
   have b:atKey (q::qs) k=atKey qs k:=by simp[atKey,I0,e']
   rw[gW e,b];exact ih
theorem KT.repl{H:Hp}{kvs:List (List Key×V)}{xs:List (List Key×Addr×Value)}(r:KT H kvs xs)(k:List Key)(ry:RelV y u):
  KT H (kvs.map λkv=>if kv.1=k then(kv.1,y)else kv) (xs.map (putAt k u)):=by
 induction r with
 | nil=>exact .nil
 | @cons p q ps qs h t ih=>
  rw[Hg,Hg];refine .cons ?_ ih;obtain⟨h1,h2,h3⟩:=h;unfold putAt;by_cases e:p.1=k
  ·rw[if_pos e,if_pos (h1.symm.trans e)];exact⟨h1,h2,ry⟩
  ·rw[if_neg e,if_neg (λz=>e (h1.trans z))];exact⟨h1,h2,h3⟩
theorem KT.put{H:Hp}{kvs:List (List Key×V)}{xs:List (List Key×Addr×Value)}(r:KT H kvs xs)(k:List Key){b:Addr}(hb:H b=some (.tup (k.map kV)))(ry:RelV y u):
  KT H (lQ kvs k y) (storedH xs k b u):=by
 have e:(kvs.any λkv=>decide (kv.1=k))=(atKey xs k).isSome:=by
  rw[jp,(r.val k).isSome_eq,Option.isSome_map]
 unfold lQ storedH;rw[e];by_cases q:(atKey xs k).isSome=true
 ·rw[if_pos q,if_pos q];exact r.repl k ry
 ·rw[if_neg q,if_neg q];exact Pc r ⟨rfl,hb,ry⟩
theorem KT.keeps{H:Hp}{kvs:List (List Key×V)}{xs:List (List Key×Addr×Value)}(r:KT H kvs xs)(ht:∀b ys,H b=some (.tup ys)->H' b=some (.tup ys)):KT H' kvs xs:=
 Paired.mapP r λ_ _ z=>⟨z.1,ht _ _ z.2.1,z.2.2⟩
section
variable{P:Program}{w:World}{H:Hp}{h:Heap}{a:Addr}
theorem Cm{u:HO}(ok:HOk P w H h)(e:Rd H a u):ObjOk P w H h a u:=e.ok ok
theorem ul{kvs:List (Key×V)}(ok:HOk P w H h)(e:Rd H a (.dK kvs)):kvs.length<=P4/\(a == Qt)=false/\∃vs,KV kvs vs/\h.DictOf (aO P w) a vs:=
 show ObjOk P w H h a (.dK kvs)from Cm ok e
theorem EH{kvs:List (Key×V)}(ok:HOk P w H h)(e:H a=some (.dK kvs)):kvs.length<=P4/\(a == Qt)=false/\∃vs,KV kvs vs/\h.DictOf (aO P w) a vs:=ul ok (.inl e)
theorem qy{ks:List Key}(ok:HOk P w H h)(e:H a=some (.tup (ks.map kV))):(tupleKind (aO P w)).is h ks a:=by
 obtain⟨_,its,r,o,h1,h2,n,h3⟩:=(show ObjOk P w H h a (.tup (ks.map kV))from ok a _ e);exact⟨o,its.toArray,n,h1,h2,h3,by simpa using nD r⟩
theorem um{kvs:List (List Key×V)}(ok:HOk P w H h)(e:Rd H a (.dT kvs)):kvs.length<=P4/\(a == Qt)=false/\
  ∃xs,KT H kvs xs/\h.DictOfH (tupleKind (aO P w)) a xs:=by
 obtain⟨z,y,xs,r,o,es,ep,h1,h2,h3,h4,h5⟩:=(show ObjOk P w H h a (.dT kvs)from Cm ok e);refine⟨z,y,xs,r,o,es,ep,h1,h2,h3,h4,λx hx=>?_,h5⟩;have all:∀{l:List (List Key×V)}{m:List (List Key×Addr×Value)},KT H l m->∀x∈m,(tupleKind (aO P w)).is h x.1 x.2.1:=by
  intro l m q
  induction q with
  | nil=>intro x hx;exact nomatch hx
  | @cons p q ps qs hq t ih=>
   intro x hx;rcases GW.mp hx with e|hx
   ·subst e
    exact qy ok (by rw[<-hq.1];exact hq.2.1)
   ·exact ih x hx
 exact all r x hx
theorem EI{kvs:List (List Key×V)}(ok:HOk P w H h)(e:H a=some (.dT kvs)):kvs.length<=P4/\(a == Qt)=false/\
  ∃xs,KT H kvs xs/\h.DictOfH (tupleKind (aO P w)) a xs:=um ok (.inl e)
end
def DGet(H:Hp)(a:Addr)(y:V)(r:Option V):Prop:=
 (∃kvs k,Rd H a (.dK kvs)/\y=kV k/\r=nC kvs k)\/∃kvs k b,Rd H a (.dT kvs)/\y=.ref b/\H b=some (.tup (k.map kV))/\r=nC kvs k
def DPut(H:Hp)(a:Addr)(y v:V)(H':Hp):Prop:=
 (∃kvs k,H a=some (.dK kvs)/\y=kV k/\kvs.length<P4/\H'=upd H a (.dK (lQ kvs k v)))\/
 ∃kvs k b,H a=some (.dT kvs)/\y=.ref b/\H b=some (.tup (k.map kV))/\kvs.length<P4/\H'=upd H a (.dT (lQ kvs k v))
theorem DGet.k{H:Hp}{kvs:List (Key×V)}{k:Key}(e:H a=some (.dK kvs)):DGet H a (kV k) (nC kvs k):=.inl ⟨kvs,k,.inl e,rfl,rfl⟩
theorem DGet.t{H:Hp}{b:Addr}{kvs:List (List Key×V)}{k:List Key}(e:H a=some (.dT kvs))(eb:H b=some (.tup (k.map kV))):DGet H a (.ref b) (nC kvs k):=.inr ⟨kvs,k,b,.inl e,rfl,eb,rfl⟩
theorem DPut.t{H:Hp}{b:Addr}{kvs:List (List Key×V)}{k:List Key}(e:H a=some (.dT kvs))(eb:H b=some (.tup (k.map kV)))(hl:kvs.length<P4):
  DPut H a (.ref b) v (upd H a (.dT (lQ kvs k v))):=.inr ⟨kvs,k,b,e,rfl,eb,hl,rfl⟩
section
variable{X:Cx}{pins:List (Addr×Obj)}{σ:St}{H:Hp}{s:Shared}{a:Addr}{y v:V}{u r:Value}{o:Option V}{A:Around}{E:Value->Shared->Prop}
theorem Inv.big(I:Inv X pins σ H s):Qt<s.heap.objs.size:=by
 have h:mainGlobals<s.heap.objs.size:=(I.mod.glob.keeps I.bk).lt;exact JZ (by decide) h
theorem uo(hu:A.units+1<cLine)(I:Inv X pins σ H s)(g:DGet H a y (some v))(ry:RelV y u)(h:∀w' s',Inv X pins σ H s'->RelV v w'->Q w' s'):
  wpAny (model X.prog X.w) A (getItem (.ref a) u) Q E s:=by
 rcases g with⟨kvs,k,e,ey,l⟩|⟨kvs,k,b,e,ey,eb,l⟩
 ·subst ey
  obtain⟨z,hd,vs,rel,dd⟩:=ul I.hok e;obtain⟨w',hw,rw'⟩:=RelO.some_of (v:=v) (o:=valueAt vs k) (by rw[l];exact rel.val k);exact wpAny_getItem_of (uk ry) dd.mapOf hw (h w' _ (I.tok _) rw')
 ·subst ey
  cases(show u=Hb b from ry);obtain⟨z,hd,xs,rel,dd⟩:=um I.hok e;obtain⟨w',hw,rw'⟩:=RelO.some_of (v:=v) (o:=(atKey xs k).map (·.2)) (by rw[l];exact rel.val k);obtain⟨p,hp,hp2⟩:=HU.mp hw;refine wpAny_getItem_heap (tupleKind_room_in1 hu) (qy I.hok eb) dd hp ?_;rw[hp2];exact h w' _ (I.tok _) rw'
theorem uq{h':Heap}{ob:HO}(I:Inv X pins σ H s)(mu:Mut (H a))(hs:IU a s.heap h')(he:∃q,h'.get? a=some q)(new:ObjOk X.prog X.w (upd H a ob) h' a ob):
  Inv X pins σ (upd H a ob) { s with heap:=h',toks:=t' }:=
 I.write (x:=a) (e:=a) mu (.inl rfl) (λb q hb z=>(hs.2 b hb).trans z) he new
theorem yC{w:World}{h':Heap}{kvs:List (Key×V)}{vs:List (Key×Value)}(z:kvs.length<=P4)(hd:(a == Qt)=false)(rel:KV kvs vs)(dd:h'.DictOf (aO P w) a vs):
  ObjOk P w H' h' a (.dK kvs):=⟨z,hd,vs,rel,dd⟩
theorem ur{Q:Unit->Shared->Prop}(hu:A.units+1<cLine)(I:Inv X pins σ H s)(g:DPut H a y v H')(ry:RelV y u)(rv:RelV v r)(h:∀s',Inv X pins σ H' s'->Q () s'):
  wpAny (model X.prog X.w) A (setItem (.ref a) u r) Q E s:=by
 rcases g with⟨kvs,k,e,ey,l,eH⟩|⟨kvs,k,b,e,ey,eb,l,eH⟩
 ·subst ey eH
  obtain⟨z,hd,vs,rel,dd⟩:=EH I.hok e;have hz:vs.length<=P4:=by rw[<-rel.length];exact z
  have hl:(lQ kvs k v).length<=P4:=by have:=gg kvs k v;lia
  refine wpAny_setItem_pairs (hsz:=hz) (uk ry) dd λh' dd' hs=>h _ ?_
  have he:∃q,h'.get? a=some q:=let⟨q,_,_,hq,_⟩:=dd';⟨q,hq⟩
  exact uq I (by rw[e];exact GL) hs he (yC hl hd (rel.put k rv) dd')
 ·subst ey eH
  cases(show u=Hb b from ry);obtain⟨z,hd,xs,rel,dd⟩:=EI I.hok e;have hz:xs.length<=P4:=by rw[<-Lh rel];exact z
  have hl:(lQ kvs k v).length<=P4:=by have:=gg kvs k v;lia
  refine wpAny_setItem_heap (hsz:=hz) (tupleKind_room_in1 hu) (qy I.hok eb) dd λh' dd' hs=>h _ ?_
  obtain⟨q,es,ep,hq,h2,h3,h4,_,h5⟩:=dd';refine uq I (by rw[e];exact GL) hs ⟨q,hq⟩ ⟨hl,hd,_,(rel.put k eb rv).keeps λc ys ec=>?_,q,es,ep,hq,h2,h3,h4,h5⟩;rw[ai (dU ec e (λz=>nomatch z))];exact ec
end
section
variable{X:Cx}{pins:List (Addr×Obj)}{σ:St}{H:Hp}{s:Shared}{a:Addr}{kvs:List (Key×V)}{k:Key}{u:Value}{A:Around}{E:Value->Shared->Prop}
end
def EJ(i:Expr):Prop:=∀ov iv,subscripted i false ov iv=operate [ov,iv] (getItem ov iv)
theorem zU{prog:Program}{w:World}{A:Around}{s:Shared}{env:Env}{value slice:Expr}{T id:String}
  (hl:typeLookup (.type T) "__getitem__" = pure (some (.builtin id))) (hs:EJ slice)
  (h:wpAny (model prog w) A (eval value env) (λo s₁=>wpAny (model prog w) A (eval slice env) (λi s₂=>s₂.TypeIs o T/\wpAny (model prog w) A (getItem o i) Q E s₂) E s₁) E s) :
  wpAny (model prog w) A (eval (.Subscript value slice pos) env) Q E s:=by
 refine Subscript_ (P8 h (λo s₁ h₁=>P8 h₁ (λi s₂ h₂=>?_) λ_ _ x=>x) λ_ _ x=>x);obtain⟨hT,h₂⟩:=h₂;unfold subscriptTail;refine P2 ?_;rw[getitemInPython_of_ne hT.not_modules];refine P2 (wpAny_specialOf hT hl ?_);have fin:wpAny (model prog w) A (subscripted slice false o i) (λr s₃=>wpAny (model prog w) A (letTemporaryGo value o r >>= λ_=>pure r) Q E s₃) E s₂:=by
  rw[hs o i];exact wpAny_operating (P8 h₂ (λr s₃ h₃=>P2 (wpAny_letTemporaryGo (P3 h₃))) λ_ _ x=>x)
 first
  | exact P3 (P2 fin)
  | exact P2 (P3 (P2 fin))
  | exact P2 fin
theorem pe {H:Hp}{s:Shared}{o:Option V}(I:Inv X pins σ H s) (g:DGet H a y o):s.TypeIs (.ref a) "dict":=by
 rcases g with⟨kvs,k,e,_,_⟩|⟨kvs,k,b,e,_,_,_⟩
 ·obtain⟨_,_,vs,_,dd⟩:=ul I.hok e
  exact dd.typeIs
 ·obtain⟨_,_,xs,_,dd⟩:=um I.hok e
  exact dd.typeIs
def zV(td ty:TE):TE:=λσ H Q=>td σ H λx H1=>ty σ H1 λy H2=>∃a v,x=.ref a/\DGet H2 a y (some v)/\Q v H2
def zW(td ty tv:TE):TS:=λD σ H=>tv σ H λv H1=>td σ H1 λx H2=>ty σ H2 λy H3=>∃a H4,x=.ref a/\DPut H3 a y v H4/\D.nx σ H4
section
variable{X:Cx}{o i e value:Expr}{pos pos' tpos:Pos}{td ty tv:TE}
theorem zX(hu:X.A.units+1<cLine)(ho:PE X o td)(hi:PE X i ty)(hs:EJ i):PE X (.Subscript o i pos) (zV td ty):=by
 intro pins s σ H Q I h;refine zU PySem.F.slot_dict_getitem.lookup hs (thn (ho pins s σ H _ I h) λu s1 ⟨x,H1,I1,rx,q1⟩=>thn (hi pins s1 σ H1 _ I1 q1) λiv s2 ⟨y,H2,I2,ry,a,v,ex,g,q2⟩=>?_);subst ex;obtain rfl:u=Hb a:=rx;exact⟨pe I2 g,uo hu I2 g ry λw' s3 I3 rw'=>⟨v,H2,I3,rw',q2⟩⟩
theorem zY(hu:X.A.units+1<cLine)(ho:PE X o td)(hi:PE X i ty)(hv:PE X value tv)(hs:QL value (some (.Subscript o i pos')) pos.line X.env=pure false):
  PS X (.Assign [.Subscript o i pos'] value pos) (zW td ty tv):=by
 intro pins s σ H D I h;refine wpAny_Assign_Subscript (thn (hv pins s σ H _ I h) λr s1 ⟨v,H1,I1,rv,q1⟩=>thn (ho pins s1 σ H1 _ I1 q1) λu s2 ⟨x,H2,I2,rx,q2⟩=>thn (hi pins s2 σ H2 _ I2 q2) λiv s3 ⟨y,H3,I3,ry,a,H4,ex,g,q3⟩=>?_) hs;subst ex;obtain rfl:u=Hb a:=rx;exact ur hu I3 g ry rv λs4 I4=>⟨σ,H4,I4,q3⟩
end
theorem xk {w:World}{H:Hp}(h:Heap) (hb:Qt<h.objs.size):ObjOk P w H (h.push { cls:=.type "dict",data:=.dict #[] }) h.objs.size (.dT []):=
 ⟨GR _,beq_eq_false_iff_ne.mpr (Hx (GV hb)),[],.nil,_,#[],0,GT _ rfl,⟨rfl,rfl,rfl⟩,rfl,rfl,MI⟩
def ut:TE:=λ_ H Q=>∀p,H p=none->Q (.ref p) (upd H p (.dT []))
section
variable{X:Cx}{pos:Pos}
theorem xl:PE X (.Dict [] [] pos) ut:=λpins s σ H Q I h=>
 wpAny_Dict_empty ⟨.ref s.heap.objs.size,_,I.laid (a:=s.heap.objs.size) (o:=.dT []) (t':=s.toks) (λ_ _ q=>GD _ q) (GF _) (xk s.heap I.big),rfl,h _ (I.hok.fresh (GF _))⟩
end
noncomputable def nE(kvs more:List (Key×V)):List (Key×V):=more.foldl (λacc kv=>lQ acc kv.1 kv.2) kvs
theorem KV.merge:∀{more:List (Key×V)}{rs:List (Key×Value)}{kvs:List (Key×V)}{vs:List (Key×Value)},KV more rs->KV kvs vs->KV (nE kvs more) (merged vs rs):=by
 intro more rs kvs vs r;unfold KV at r
 induction r generalizing kvs vs with
 | nil=>intro q;exact q
 | @cons p q ps qs h t ih=>
  intro r0;have e:KV (lQ kvs p.1 p.2) (stored vs q.1 q.2):=by
   have:=r0.put p.1 h.2;rw[<-h.1];exact this
  exact ih e
theorem gX:∀(more kvs:List (Key×V)),(nE kvs more).length<=kvs.length+more.length
 | [],kvs=>by show kvs.length<=kvs.length+0;lia
 | p::r,kvs=>by
  have h1:=gX r (lQ kvs p.1 p.2);have h2:=gg kvs p.1 p.2;show(nE (lQ kvs p.1 p.2) r).length<=_
  rw[Hh];lia
structure M2 (X:Cx) (o:Expr) (m:Str) (apos:Pos) (e f:Expr) (cpos:Pos):Prop where
 base:attributeBase o m X.env (eval o X.env)=eval o X.env
 few:((backTo cpos (starEach [e,f] X.env)).all (λx=>!x.1) && (backToKw cpos (keywordEach [] X.env)).all (λx=>x.1.isSome)
  && decide (([e,f]:List Expr).length+([]:List Keyword).length+(if([]:List Keyword).isEmpty then 0 else 1)<30))=true
 line:(apos.endLine == cpos.line)=true
 trees:backTo cpos (starEach [e,f] X.env)=[(false,eval e X.env),(false,eval f X.env)]
def IsD(H:Hp)(a:Addr):Prop:=(∃kvs,Rd H a (.dK kvs))\/∃kvs,Rd H a (.dT kvs)
theorem Co{H:Hp}{s:Shared}(I:Inv X pins σ H s)(d:IsD H a):
  s.TypeIs (.ref a) "dict"/\(∀b,Hb a=.ref b->∃ob,s.heap.get? b=some ob/\ob.dict=none)/\(a == Qt)=false:=by
 rcases d with⟨kvs,e⟩|⟨kvs,e⟩
 ·obtain⟨_,hd,vs,_,dd⟩:=ul I.hok e
  refine⟨dd.typeIs,λb q=>?_,hd⟩;cases q;obtain⟨ob,_,_,h1,h2,_⟩:=dd;exact⟨ob,h1,h2.2.1⟩
 ·obtain⟨_,hd,xs,_,dd⟩:=um I.hok e
  refine⟨dd.typeIs,λb q=>?_,hd⟩;cases q;obtain⟨ob,_,_,h1,h2,_⟩:=dd;exact⟨ob,h1,h2.2.1⟩
section
variable{X:Cx}{pins:List (Addr×Obj)}{σ:St}{H:Hp}{s:Shared}{a:Addr}{y d:V}{u r:Value}{o:Option V}{A:Around}{E:Value->Shared->Prop}
theorem Cp(hu:A.units+1<cLine)(I:Inv X pins σ H s)(g:DGet H a y o)(ry:RelV y u)(rd:RelV d r)(h:∀w' s',Inv X pins σ H s'->RelV (o.getD d) w'->Q w' s'):
  wpAny (model X.prog X.w) A (call (.builtin "dict.get") [.ref a,u,r]) Q E s:=by
 rcases g with⟨kvs,k,e,ey,l⟩|⟨kvs,k,b,e,ey,eb,l⟩
 ·subst ey
  obtain⟨z,hd,vs,rel,dd⟩:=ul I.hok e;refine call_meetsIn KE dd.typeIs Mx (L8 _ _ _) (meets_dict_get_default (aO X.prog X.w) a (uk ry) hd r) ⟨_,dd.mapOf,h _ _ (I.tok _) ?_⟩;rw[l];exact(rel.val k).getD rd
 ·subst ey
  cases(show u=Hb b from ry);obtain⟨z,hd,xs,rel,dd⟩:=um I.hok e;refine call_meetsIn KE dd.typeIs Mx (L8 _ _ _) (meetsH_dict_get_default (tupleKind (aO X.prog X.w)) a b hd r) ⟨tupleKind_room_in1 hu,k,xs,qy I.hok eb,dd,h _ _ (I.tok _) ?_⟩;rw[l];exact(rel.val k).getD rd
end
def uu(td ty tx:TE):TE:=λσ H Q=>td σ H λx H1=>∃a,x=.ref a/\IsD H1 a/\ty σ H1 λy H2=>tx σ H2 λz H3=>∃o,DGet H3 a y o/\Q (o.getD z) H3
section
variable{X:Cx}{o e f:Expr}{apos cpos:Pos}{td ty tx:TE}
theorem xm (hu:X.A.units+1<cLine) (ho:PE X o td) (he:PE X e ty) (hf:PE X f tx) (m:M2 X o "get" apos e f cpos):PE X (.Call (.Attribute o "get" apos) [e,f] [] cpos) (uu td ty tx):=by
 intro pins s σ H Q I h;refine wpAny_Call_method m.base m.few m.line Ma KE PySem.F.type_dict_get (thn (ho pins s σ H _ I h) λu s1 ⟨x,H1,I1,rx,a,ex,d,q1⟩=>?_);subst ex;obtain rfl:u=Hb a:=rx;obtain⟨t1,t2,_⟩:=Co I1 d;refine⟨t1,t2,?_⟩;rw[m.trees];refine IT rfl (KJ (IV (thn (he pins s1 σ H1 _ I1 q1) λiv s2 ⟨y,H2,I2,ry,q2⟩=>
  IV (thn (hf pins s2 σ H2 _ I2 q2) λfv s3 ⟨z,H3,I3,rz,ov,g,q3⟩=>JA ?_))))
 exact Cp hu I3 g ry rz λw' s4 I4 rw'=>⟨_,H3,I4,rw',q3⟩
end
section
variable{X:Cx}{pins:List (Addr×Obj)}{σ:St}{H:Hp}{s:Shared}{a:Addr}{kvs:List (Key×V)}{A:Around}{E:Value->Shared->Prop}
end
section
variable{X:Cx}{pins:List (Addr×Obj)}{σ:St}{H:Hp}{s:Shared}{a:Addr}{y:V}{u:Value}{A:Around}{E:Value->Shared->Prop}
end
section
variable{X:Cx}{o i value:Expr}{td ty tv:TE}{pos pos':Pos}
theorem uv(hu:X.A.units+1<cLine)(ho:QE X o td)(hi:QE X i ty)(hs:EJ i:=by intro _ _;rfl):QE X (.Subscript o i pos) (zV td ty):=⟨zX hu ho.out hi.out hs⟩
theorem uw(hu:X.A.units+1<cLine)(ho:QE X o td)(hi:QE X i ty)(hv:QE X value tv)(hs:QL value (some (.Subscript o i pos')) pos.line X.env=pure false:=by rfl):
  QS X (.Assign [.Subscript o i pos'] value pos) (zW td ty tv):=⟨zY hu ho.out hi.out hv.out hs⟩
end
theorem lR{xs:List Nat}(h:xs.Nodup)(hb:∀x∈xs,x<n):xs.length<=n:=by
 rcases Iz n xs.length with g|g
 ·have:=(jJ (ys:=GH n) h (λx hx=>Hj.mpr (hb x hx)) (by rw[HH];lia)).length_eq
  rw[HH]at this;lia
 ·exact g
end L2
namespace HT
open PySem PyProof.Rows PySem.W L2
section
variable{prog:Program}{w:World}{A:Around}{E:Value->Shared->Prop}{s:Shared}{a kS:Addr}{vs ks:List Value}{e e1:Nat}{P:Pz->Shared->Prop}
noncomputable abbrev nF(h:Heap)(kS a:Addr)(out:Array Value):Heap:=(h.update kS (Hd λ_=>(#[]:Array Value))).update a (Hd λ_=>out)
theorem qz {st:SortSt}{out:Array Value}(hka:kS≠a) (hoA:s.heap.get? a=some (seqObj "list" #[] e1)) (hoK:s.heap.get? kS=some (seqObj "list" ks.toArray e)) (hkl:ks.length<64) (hol:out.size<64) (hout:(arrOf st).map (·.2)=out) (hfl:failedOf st=none)
  (h:P (.done (.ret .none)) { s with heap:=nF s.heap kS a out }):wpAny (model prog w) A (ksk_tail a false e1 (.ref kS) st) P E s:=by
 have s1:=Jq s.heap kS (Hd λ_=>(#[]:Array Value));have na1:(s.heap.update kS (Hd λ_=>(#[]:Array Value))).get? a=some (seqObj "list" #[] e1):=(s1.2 a hka.symm).trans hoA;unfold ksk_tail;rw[hout];simp only[Hm,if_false];refine P2 (QJ hoK rfl ?_ (by rw[GO,Qb];lia) (GR _));refine P2 (QX ?_);refine P2 (seqEpoch_at na1 rfl ?_);refine P2 (QJ na1 rfl ?_ (GR _) (by rw[Qb];lia));rw[hfl];simp only[bne_self_eq_false,Hm,if_false];exact P3 h
theorem zZ {κ:SortKind}{lt:Nat->Nat->Bool}(hka:kS≠a) (hoA:s.heap.get? a=some (seqObj "list" #[] e1)) (hoK:s.heap.get? kS=some (seqObj "list" ks.toArray e)) (hlen:ks.length=vs.length) (h64:vs.length<64) (H:Lt lt)
  (hk:∀(Q:SortKind->Shared->Prop),2<=vs.length->Q κ s->wpAny (model prog w) A (keyKind' ks.toArray) Q (λ_ _=>False) s)
  (hc:∀i j (Q:Bool->Shared->Prop),i<vs.length->j<vs.length->Q (lt i j) s->wpAny (model prog w) A (keyLt' κ (ks.getD i Hf) (ks.getD j Hf)) Q (λ_ _=>False) s)
  (h:∀p:List Nat,p.Perm (GH vs.length)->p.Pairwise (Ah lt)->P (.done (.ret .none)) { s with heap:=nF s.heap kS a (Hk (p.map λi=>vs.getD i Hf)) }) :
  wpAny (model prog w) A (ksk_end a false vs.toArray e1 (.ref kS) ks.toArray) P E s:=by
 unfold ksk_end;simp only[Hm,if_false];have hsz:vs.toArray.size=vs.length:=by simp
 by_cases h2:vs.toArray.size<2
 ·rw[if_pos h2,if_pos h2]
  refine P2 (P3 ?_);rw[NW];refine P2 (P3 ?_);dsimp only;have eo:(arrOf (KR general' (ks.toArray.zip vs.toArray) #[] 7 none)).map (·.2)=Hk ((GH vs.length).map λi=>vs.getD i Hf):=by
   have e:=kas_range (ks.toArray.zip vs.toArray);rw[show(ks.toArray.zip vs.toArray).size=vs.length by simp[hlen]]at e;have:=kat_snds (st:=KR general' (ks.toArray.zip vs.toArray) #[] 7 none) (ks:=ks) (vs:=vs) hlen e.symm;simpa using this
  exact qz (st:=KR general' (ks.toArray.zip vs.toArray) #[] 7 none) hka hoA hoK ⋯ (by simp;lia) eo rfl (h (GH vs.length) (Jh _) (qw _ ⋯))
 ·rw[if_neg h2,if_neg h2]
  refine P2 (P8 (hk (λκ' s'=>κ'=κ/\s'=s) ⋯ ⟨rfl,rfl⟩) (λκ' s' hh=>?_) λ_ _ x=>x.elim);obtain⟨rfl,rfl⟩:=hh;refine P2 (P8 (uh (ks:=ks) (vs:=vs) (I:=λs''=>s''=s') hlen ⋯ H rfl (λi j s'' hi hj es=>by subst es;exact hc i j _ hi hj ⟨rfl,rfl⟩)) ?_ λ_ _ e=>e);rintro⟨⟨⟩,st'⟩ s'' ⟨p,har,hf,hp,rfl,q1,q2⟩;dsimp only;exact qz hka hoA hoK ⋯ (by rw[GO,GA,Ii,hp];exact h64) (kat_snds hlen har) hf (h p.toList q1 q2)
theorem xn{f:Value}(J:Nat->List Value->Shared->Prop)(h0:J 0 [] s)(h64:vs.length<64)
  (step:∀i x ks s,vs[i]? = some x->J i ks s->ks.length=i/\wpAny (model prog w) A (call f [x]) (λk s'=>∃e,s'.heap.get? kS=some (seqObj "list" ks.toArray e)/\J (i+1) (ks++[k]) { s' with heap:=s'.heap.update kS (Hd (·.push k)) }) (λ_ _=>False) s)
  (done:∀ks s,J vs.length ks s->∃e,s.heap.get? kS=some (seqObj "list" ks.toArray e)/\wpAny (model prog w) A (ksk_end a false vs.toArray e1 (.ref kS) ks.toArray) P E s) :
  wpAny (model prog w) A (ksk_rest a f false vs.toArray e1 (.ref kS)) P E s:=by
 unfold ksk_rest;refine P2 (wpAny_rule ?_)
 first
  | rw[List.forIn_toArray]
  | (rw[<-Nj];simp only[List.toList_toArray])
  | rw[<-Nj]
 refine P2 (ksk_fold (λi s'=>∃ks,J i ks s') vs 0 s ⟨[],h0⟩ ?step ?done);case step=>
  rintro j x s' hx ⟨ks,hJ⟩;rw[LU]at hJ ⊢;obtain⟨hkl,hcall⟩:=step j x ks s' hx hJ;have hj:j<vs.length:=(GQ.mp hx).1;refine P2 (wpAny_attempt (P8 hcall (λk s'' he=>?_) λ_ _ hF=>hF.elim));obtain⟨e,hk,hJ'⟩:=he
  try dsimp only
  refine P2 (QJ hk rfl ?_ (by rw[GO,Qb];lia) (HJ (HR (NX ..)) (by rw[GO,Qb];lia)));exact P3 ⟨rfl,_,hJ'⟩
 case done=>
  rintro s' ⟨ks,hJ⟩;rw[LU]at hJ;obtain⟨e,hk,hd⟩:=done ks s' hJ
  try dsimp only
  exact P2 (listItems_at hk rfl hd)
theorem xo {f:Value}(ho:s.heap.get? a=some (seqObj "list" vs.toArray n)) (h64:vs.length<64)
  (h:∀(h':Heap) (kS:Addr) (e1:Nat),(∀b o,b≠a->s.heap.get? b=some o->h'.get? b=some o)->s.heap.objs.size<=kS->h'.get? kS=some (seqObj "list" #[] 0)->h'.get? a=some (seqObj "list" #[] e1)->(∀b,s.heap.objs.size<=b->b<h'.objs.size->True)->
   wpAny (model prog w) A (ksk_rest a f false vs.toArray e1 (.ref kS)) P E { s with heap:=h' }) :
  wpAny (model prog w) A (ksk_tree a f false) P E s:=by
 have ha:a<s.heap.objs.size:=GK ho;have s1:=Jq s.heap a (Hd λ_=>(#[]:Array Value));obtain⟨e1,ho1⟩:∃e1,(s.heap.update a (Hd λ_=>(#[]:Array Value))).get? a=some (seqObj "list" #[] e1):=⟨_,QH ho λ_=>#[]⟩
 have hkS:((s.heap.update a (Hd λ_=>(#[]:Array Value))).push (seqObj "tuple" vs.toArray 0)).objs.size=s.heap.objs.size+1:=by rw[QV,JP]
 unfold ksk_tree;refine P2 (listItems_at ho rfl ?_);refine P2 (QJ ho rfl ?_ (by rw[GO,Qb];lia) (GR _));refine P2 (seqEpoch_at ho1 rfl ?_);refine P2 (wpAny_newTuple ?_ (by show vs.length<=_;rw[Qb];lia));refine P2 (wpAny_newList ?_ (GR _));refine P7 ?_;refine h (((s.heap.update a (Hd λ_=>(#[]:Array Value))).push (seqObj "tuple" vs.toArray 0)).push (seqObj "list" #[] 0)) _ e1 (λb o hb e=>?_) (by rw[hkS];lia) (GT _ rfl) (GD _ (GD _ ho1)) (λ_ _ _=>trivial);exact GD _ (GD _ ((s1.2 b hb).trans e))
theorem rL{G:List Value->Prop}(h64:∀vs,G vs->vs.length<64)
  (hcol:∀(Q:List Value->Shared->Prop),(∀vs h1 tk,G vs->(∀b o,s.heap.get? b=some o->h1.get? b=some o)->Q vs { s with heap:=h1,toks:=tk })->wpAny (model prog w) A.in1 (collect (.ref l)) Q (λ_ _=>False) s)
  (h:∀(vs:List Value) (h1 h':Heap) (tk:Nat) (a kS:Addr) (e1:Nat),G vs->(∀b o,s.heap.get? b=some o->h1.get? b=some o)->(∀b o,h1.get? b=some o->h'.get? b=some o)->h1.objs.size<=a->a<kS->h'.get? kS=some (seqObj "list" #[] 0)->h'.get? a=some (seqObj "list" #[] e1)->
   wpAny (model prog w) A.in1.in1 (ksk_rest a (.ref q) false vs.toArray e1 (.ref kS)) (λr s'=>r=.done (.ret .none)/\Q (.ref a) s') (λ_ _=>False) { s with heap:=h',toks:=tk }) :
  wpAny (model prog w) A (call (.builtin "sorted") [.ref l] [(Hi "key",.ref q)]) Q E s:=by
 refine call_function_entry_kw kind_sorted plain_sorted entry_sorted (ksk_s1 _ _) ?_;unfold Builtin.«sorted»;refine P2 (m:=checkCount "sorted" 1 1 _) (P3 ?_);refine P2 (P8 (hcol _ λvs h1 tk g1 k1=>?_) (λ_ _ x=>x) λ_ _ x=>x.elim);have h64:=h64 vs g1;refine P2 (wpAny_newList ?_ (by rw[Qb];lia));have hoL:(h1.push (seqObj "list" vs.toArray 0)).get? h1.objs.size=some (seqObj "list" vs.toArray 0):=GT _ rfl;show wpAny _ _ _ _ _ { s with heap:=h1.push (seqObj "list" vs.toArray 0),toks:=tk }
 refine P2 (P7 (wpAny_call_entry_kw slot_list_sort ⟨_,hoL,rfl⟩ entry_list_sort ?body (ksk_l1 _ _)));case body=>
  show wpAny (model prog w) A.in1.in1 (Builtin.«list.sort» ⟨[.ref h1.objs.size],[(Hi "key",.ref q)]⟩) _ _ _
  rw[ksk_t1];refine xo (s:={ s with heap:=h1.push (seqObj "list" vs.toArray 0),toks:=tk }) hoL h64 λh' kS e1 k2 hk1 hk2 hk3 _=>?_
  have hlt:h1.objs.size<kS:=by
   have:=hk1;rw[show({ s with heap:=h1.push (seqObj "list" vs.toArray 0),toks:=tk }:Shared).heap.objs.size=h1.objs.size+1 from QV ..]at this;lia
  refine P8 (h vs h1 h' tk h1.objs.size kS e1 g1 k1 (λb o e=>k2 b o (GV (GK e)) (GD _ e)) (GF _) hlt hk2 hk3) (λr s' hr=>?_) λ_ _ x=>x.elim
  obtain⟨rfl,hq⟩:=hr;exact⟨_,rfl,P3 ⟨_,rfl,hq⟩⟩
theorem lS{r:Addr}{x b c:Int}{t u v:Tok}{Q:List Value->Shared->Prop}(hh:A.handled=none)(hr:IsRange s.heap r x b c t u v)(hsmall:Jp x b c=true)(hn:Ia x b c=n)(hlen:n<=2 ^ 24)
  (hQ:∀h' tk (acc:Array Value),(∀b o,s.heap.get? b=some o->h'.get? b=some o)->ItemsOf (λi v=>∃t,v=.int (x+i*c) t) acc n->Q acc.toList { s with heap:=h',toks:=tk }) :
  wpAny (model prog w) A (collect (.ref r)) Q E s:=by
 unfold collect;refine P2 (wpAny_runValue (Qd Le ?_));rw[HS Lf _];show wpAny _ A.in1 (newList [] >>= λl=>again (.builtin "list.__iadd__" ⟨[l,.ref r],[]⟩)) _ _ s
 refine P2 (P5 ?_);refine P3 ⟨Qe Ju _,Qd Mb ?_⟩;rw[HS Ju _];show wpAny _ A.in1 (JM (.ref s.heap.objs.size) (.ref r) (.ref s.heap.objs.size)) _ _ _
 have hS:(s.heap.push { cls:=.type "list",data:=.seq ([]:List Value).toArray }).get? s.heap.objs.size=some { cls:=.type "list",data:=.seq #[] 0 }:=GT _ rfl;refine P8 (wpAny_extend_range (A:=A) (s:={ s with heap:=s.heap.push { cls:=.type "list",data:=.seq ([]:List Value).toArray } }) (R:=λr' s'=>r'=.ok (.ret (.ref s.heap.objs.size))/\∃h' tk acc c',s'={ s with heap:=h',toks:=tk }/\(∀b o,s.heap.get? b=some o->h'.get? b=some o)/\h'.get? s.heap.objs.size=some { cls:=.type "list",dict:=none,data:=.seq acc c',slots:=#[] }/\ItemsOf (λi v=>∃t,v=.int (x+i*c) t) acc n)
  hh (GD _ hr) hsmall hn hlen s.heap.objs.size _ 0 hS λh' tk acc c' k g i=>⟨rfl,h',tk,acc,c',rfl,λb o e=>k b o (GV (GK e)) (GD _ e),g,i⟩) (λfin s' hf=>?_) (λe s' hf=>?_)
 ·have fin':∀s',(∃h' tk acc c',s'={ s with heap:=h',toks:=tk }/\(∀b o,s.heap.get? b=some o->h'.get? b=some o)/\h'.get? s.heap.objs.size=some { cls:=.type "list",dict:=none,data:=.seq acc c',slots:=#[] }/\ItemsOf (λi v=>∃t,v=.int (x+i*c) t) acc n)->
   wpAny (model prog w) A (match Hb s.heap.objs.size with
   | Hb a=>do
    match(<-load a).data with
     | OV xs _=>pure xs.toList
     | _=>unsupported "internal:collect"
   | _=>unsupported "internal:collect") Q E s':=by
   rintro s' ⟨h',tk,acc,c',rfl,k,g,i⟩;show wpAny _ A (load s.heap.objs.size >>= _) _ _ _
   exact P2 (wpAny_load g (P3 (hQ h' tk acc k i)))
  cases fin with
  | done f=>
   obtain⟨e,hx⟩:=hf;cases e;exact fin' _ hx
  | again c'=>exact⟨hf.1,QM hf.2 λr' s'' hr=>by obtain⟨rfl,hx⟩:=hr;exact fin' _ hx⟩
 ·exact absurd hf.1 (by simp)
end
end HT
namespace L2
open PySem PySem.Spec PyProof.Rows PySem.W
noncomputable def ux(X:Cx)(N:List Str)(qual:Str)(scope:Scope)(f c':Addr)(cl:List (Str×Addr))(A:Around)(C:Addr)(s:Shared)(H:Hp):Cx:=
 { X with A:=A.deeper (envX qual scope C f (.ref c') cl),N:=N,s₀:=s,H₀:=H,env:=envX qual scope C f (.ref c') cl,outer:=X.stack,stack:=envX qual scope C f (.ref c') cl::X.stack,ex:=[],fn:=λ_=>false,calm:=true,pn:=[],xe:=λ_ _=>False }
noncomputable def FlOk(X:Cx)(scope:Scope)(cl:List (Str×Addr)):List Str->Prop
 | []=>True
 | x::r=>(X.env.kindOf x=some .cell/\scope.names.lookup x=some .free/\∃c,cl.lookup x=some c/\X.env.cells.lookup x=some c)/\FlOk X scope cl r
theorem FlOk.mem{X:Cx}{scope:Scope}{cl:List (Str×Addr)}:∀{l:List Str},FlOk X scope cl l->∀x∈l,
  X.env.kindOf x=some .cell/\scope.names.lookup x=some .free/\∃c,cl.lookup x=some c/\X.env.cells.lookup x=some c
 | [],_,_,h=>nomatch h
 | y::r,⟨h1,h2⟩,x,h=>by
  rcases GW.mp h with e|e
  ·subst e;exact h1
  ·exact FlOk.mem h2 x e
structure LamOk (X:Cx) (N:List Str) (x:Str) (frs:List Str) (ix:List Nat) (scope:Scope) (cl:List (Str×Addr)):Prop where
 clos:closureFor scope X.env=pure cl
 cell:∀y∈scope.names,y.2≠.cell
 kind:scope.kind=.function
 par:scope.names.lookup x=some .local
 nm:N=x::frs
 ixs:ix.map (X.N[·]?)=frs.map some
 fr:FlOk X scope cl frs
 cls:ClOk X cl
 has:scope.names.all (λp=>!(p.2 == .cell || p.2 == .free) || (cl.lookup p.1).isSome)=true
 co:scope.isCoroutine=false
 gen:scope.isGenerator=false
noncomputable def uy(ix:List Nat)(σ:St)(v:V):St:=some v::ix.map λj=>(σ[j]?).getD none
section
variable{X:Cx}{N frs:List Str}{x qual:Str}{ix:List Nat}{scope:Scope}{cl:List (Str×Addr)}{A:Around}{f c' C:Addr}
theorem LamOk.hasOf(c:LamOk X N x frs ix scope cl){y:Str}(h:scope.names.lookup y=some .cell\/scope.names.lookup y=some .free):∃a,cl.lookup y=some a:=by
 have all:=Jl.mp c.has;rcases h with h|h
 ·have q:=all _ (cN h)
  exact Ip.mp (by simpa only[beq_self_eq_true,KM,JQ,Jv]using q)
 ·have q:=all _ (cN h)
  exact Ip.mp (by simpa only[beq_self_eq_true,LJ,JQ,Jv]using q)
theorem z5{H:Hp}{s:Shared}{h1:Heap}{m:Str->Option Value}(c:LamOk X N x frs ix scope cl)(I:Inv X pins σ H s)(hA:A.frames=some X.stack)(hh:A.handled=none)
  (hC:s.heap.objs.size<=C) (hns:h1.Ns C m) (hm:m x=some u) (r:RelV v u) (hk:∀b o,s.heap.get? b=some o->h1.get? b=some o) :
  Inv (ux X N qual scope f c' cl A C s H) [] (uy ix σ v) H { s with heap:=h1,toks:=tk }:=by
 have hcn:∀x a,cl.lookup x=some a->X.env.cells.lookup x=some a:=c.cls.get
 refine⟨⟨I.ok.mod,c.kind,rfl,rfl,hC,λx y a h1 h2=>I.ok.inj x y a (hcn _ _ h1) (hcn _ _ h2),λx hx=>c.hasOf hx,(λx a z _=>Bool.noConfusion z),λ_=>hh,?_,.inr ⟨rfl,rfl⟩,λb hb=>(by cases hb),I.bs,HJ I.ok.bsz I.sz,λb o e hb=>(by cases hb),λb hb z=>(by cases hb),I.stack,I.stkFree⟩,
  rfl,I.bare,Un.kept hk,⟨m,hns,λi y w e1 e2 e3=>?_⟩,λx a e=>?_,I.hok.fresh hC,λx a e=>I.freeC x a (hcn x a e),λp hp=>(by cases hp),I.hok.kept hk,?_⟩
 ·show(A.deeper _).frames=some _
  simp only[Around.deeper,hA];rfl
 ·rw[show(ux X N qual scope f c' cl A C s H).N=x::frs from c.nm]at e1
  match i,e1,e2 with
  | 0,e1,e2=>
   cases e1;cases e2;exact⟨u,r,.inl ⟨c.par,hm⟩⟩
  | i+1,e1,e2=>
   have e1:frs[i]? = some y:=by simpa using e1
   have e2:(ix.map λj=>(σ[j]?).getD none)[i]? = some (some w):=e2;have hy:y∈frs:=Hc e1;obtain⟨k1,k2,a,l1,l2⟩:=c.fr.mem y hy;have e:=congrArg (·[i]?) c.ixs;simp only[GE,e1]at e;rw[GE]at e2;cases q:ix[i]? with
   | none=>rw[q]at e;cases e
   | some j=>
    rw[q]at e e2;simp only[KG,Lv]at e e2;have n2:σ[j]? = some (some w):=by
     cases z:σ[j]? with
     | none=>rw[z]at e2;cases e2
     | some o=>rw[z]at e2;simp at e2;rw[e2]
    obtain⟨m',_,hl⟩:=I.loc;obtain⟨u',r',l⟩:=hl j y w e n2 (.inr (.inl k1));refine⟨u',r',.inr ⟨.inr k2,a,l1,?_⟩⟩;rcases l with⟨l,_⟩|⟨_,a',l3,o,l4,l5⟩
    ·rw[k1]at l;cases l
    ·rw[l2]at l3;cases l3
     exact⟨o,hk _ _ l4,l5⟩
 ·obtain⟨v,o,q1,q2⟩:=I.cell x a (hcn x a e)
  exact⟨v,o,hk _ _ q1,q2⟩
 ·show(uy ix σ v).length=N.length
  unfold uy;have e:=congrArg Jz c.ixs;simp only[GA]at e;rw[c.nm];simp[e]
theorem xp{H:Hp}{s:Shared}{name:Str}{params:Arguments}{body:Expr}{ctv:Value}{te:TE}{Q:VK}(c:LamOk X N x frs ix scope cl)(I:Inv X pins σ H s)(hA:A.frames=some X.stack)(hh:A.handled=none)(hroom:A.depth<recursionLimit)
  (hf:s.heap.get? f=some (kla_obj name qual params body scope cl pm c' ctv)) (hcd:s.heap.CodeRec (.ref c') qual) (hbind:bindArgs (kla_fn name qual params body scope cl pm (.ref c') ctv) ⟨[u],[]⟩=pure [(x,u)]) (r:RelV v u)
  (he:∀C s H,PE (ux X N qual scope f c' cl A C s H) body te) (q:te (uy ix σ v) H Q):wpAny (model X.prog X.w) A (call (.ref f) [u]) (EP X pins σ Q) (λ_ _=>False) s:=by
 refine wpAny_call (QM (R:=λr s'=>match r with
  | .ok (.ret u)=>CE X.stack X.prog X.w H s Q u s'
  | _=>False) (kla_callFunE hroom hf rfl c.co c.gen rfl hcd ?_) λr s' hr=>?_)
 ·rw[hbind]
  refine P3 (Qz c.cell (λy hy=>by rw[G1.mp hy];exact c.par) (λh₁ hns hsb=>⟨(I.nolimit).fresh _ hsb,?_⟩) c.kind);have hk₁:∀b o,s.heap.get? b=some o->h₁.get? b=some o:=λb o e=>hsb.extBut b o (GV (GK e)) (GD _ e)
  show codeAny _ _ (.expr body (envX qual scope s.heap.objs.size f (.ref c') cl)) _ _
  have I1:=z5 (qual:=qual) (f:=f) (c':=c') (tk:=s.toks+[(x,u)].length) c I hA hh (GF _) hns (by show([(x,u)].reverse).lookup x=some u;simp) r hk₁;refine kla_codeExpr (P8 (he _ _ _ [] _ _ H Q I1 q) (λw s' hs=>?_) λ_ _ z=>(by exact z.elim));obtain⟨y,H',J,rv,hq⟩:=hs;exact⟨y,H',J.os,J.bare,J.base,J.hok,rv,hq⟩
 ·match r,hr with
  | .ok (.ret u'),hr=>exact I.after hr
end
noncomputable def pf(c':Addr)(qual:Str):HO:=.ext λh=>h.CodeRec (.ref c') qual
def TabOk(P:Addr)(lpos:Pos)(qual:Str)(H:Hp):Prop:=H P=some (.tbl #[])\/∃c',H P=some (.tbl #[Qp lpos.line,Qp lpos.col,.ref c'])/\H c'=some (pf c' qual)
def SameX(P:Addr)(H H':Hp):Prop:=∀b o,b≠P->H b=some o->H' b=some o
theorem SameX.refl(P:Addr)(H:Hp):SameX P H H:=λ_ _ _ h=>h
theorem TabOk.ne{P:Addr}{H:Hp}(t:TabOk P lpos qual H){b:Addr}(h:H b=some (.lst xs)):b≠P:=λe=>by
 subst e;rcases t with t|⟨c,t,_⟩<;>rw[h]at t<;>cases t
theorem TabOk.neT{P:Addr}{H:Hp}(t:TabOk P lpos qual H){b:Addr}(h:H b=some (.tup xs)):b≠P:=λe=>by
 subst e;rcases t with t|⟨c,t,_⟩<;>rw[h]at t<;>cases t
theorem TabOk.same{P:Addr}{H:Hp}(t:TabOk P lpos qual H)(s:Same H H1):TabOk P lpos qual H1:=by
 rcases t with t|⟨c,t,u⟩
 ·exact .inl (s _ _ t)
 ·exact .inr ⟨c,s _ _ t,s _ _ u⟩
section
variable{X:Cx}{N frs:List Str}{x:Str}{ix:List Nat}{scope:Scope}{cl:List (Str×Addr)}{A:Around}{cc P:Addr}{pins:List (Addr×Obj)}{σ:St}{H:Hp}{s:Shared}{params:Arguments}{body:Expr}{lpos:Pos}
theorem rM{P:Program}{w:World}{H:Hp}{c':Addr}(e:h.CodeRec (.ref c') qual):ObjOk P w H h c' (pf c' qual):=by
 obtain⟨c,o,vs,t,e1,e2,e3,e4⟩:=id e;cases e1;refine⟨e,⟨o,e2⟩,λh1 h2 hφ k=>?_⟩;obtain⟨c2,o2,vs2,t2,f1,f2,f3,f4⟩:=hφ;cases f1;exact⟨_,o2,vs2,t2,rfl,k _ f2,f3,f4⟩
theorem xq {M:Model}(hcl:closureFor scope X.env=pure cl) (I:Inv X pins σ H s) (hcode:X.env.code=.ref cc) (hcd:codeHdIn X.K cc P=true) (hb:X.base.BuiltinsAt X.mg P) (hdef:defaultsOf params X.env=([],[])) (T:TabOk P lpos (X.env.qual++"<lambda>") H)
  (h:∀f c' pm ctv H' s',Inv X ((f,kla_obj "<lambda>" (X.env.qual++"<lambda>") params body scope cl pm c' ctv)::pins) σ H' s'->TabOk P lpos (X.env.qual++"<lambda>") H'->SameX P H H'->H' c'=some (pf c' (X.env.qual++"<lambda>"))->Q (.ref f) s') :
  wpAny M A (eval (.Lambda params body scope lpos) X.env) Q E s:=by
 refine kla_eval hdef ?_;have hg:s.heap.Ns mainGlobals X.mg:=I.mod.glob.keeps I.bk;have C:CodeHd s.heap cc P:=codeHd_of_K I.kIn hcd;have hbs:s.heap.BuiltinsAt X.mg P:=by
  obtain⟨bm,o,b1,b2,b3,b4,b5,b6⟩:=hb;exact⟨bm,o,b1,b2,b3,b4,I.bk _ _ b5,b6⟩
 have hPL:∀ps,H P=some (.tbl ps)->P≠X.env.locals:=λps e z=>by rw[z,I.free]at e;cases e
 have hPc:∀ps,H P=some (.tbl ps)->∀x c,X.env.cells.lookup x=some c->c≠P:=λps e x c h1 z=>by rw[<-z,I.freeC x c h1]at e;cases e
 have hgP:∀ps,H P=some (.tbl ps)->mainGlobals≠P:=λps e z=>by
  obtain⟨o,es,ep,ho,_⟩:=I.mod.glob;rw[<-z,(I.bs _ _ ho).2]at e;cases e
 rcases T with T|⟨c',T,Tc⟩
 ·have hP:s.heap.get? P=some (tabObj #[]):=I.hok P _ T
  refine kla_makeFunction (mg:=X.mg) hcl I.ok.glob hg hcode C hP trivial rfl (hgP _ T) hbs λc' ctv h' tk hx hge hlt hrec htb=>?_
  have htb':h'.get? P=some (tabObj #[Qp lpos.line,Qp lpos.col,.ref c']):=htb;have nP:∀(b:Addr) (u:Obj),H b=none->b≠P:=λb u n z=>by rw[z,T]at n;cases n
  have hcP:c'≠P:=Ho (G0 (I.hok.lt T) hge);have I1:Inv X pins σ (upd H P (.tbl #[Qp lpos.line,Qp lpos.col,.ref c'])) { s with heap:=h',toks:=tk }:=by
   refine I.step (g':=s.gens) (d':=s.drawn) (ch:=[]) (λ_ z=>nomatch z) (λb o _ _ _ e n=>hx b o (nP b o n) e) (λb o _ _ _ e n=>⟨o.slots,hx b o (nP b o n) e⟩) (λb o _ e n=>by rw[ai (nP b o n)];exact n) (λb o _ e=>?_)
    (λb xs e=>?_) (λb o u e=>?_) (λb ps e=>?_) (λm hm=>?_) (λb u e=>?_) I.bare
   ·by_cases hb:b=P
    ·exact⟨_,hb▸htb'⟩
    ·exact⟨o,hx b o hb e⟩
   ·rw[ai (dU e T (by intro z;cases z))];exact e
   ·rw[ai (dU e T (by intro z;cases z))];exact e
   ·by_cases hb:b=P
    ·subst hb
     rw[T]at e;cases e;exact⟨#[Qp lpos.line,Qp lpos.col,.ref c'],by rw[aa];rfl⟩
    ·exact⟨#[],by rw[ai hb,e];simp⟩
   ·obtain⟨o,es,ep,ho,r⟩:=hm
    exact⟨o,es,ep,hx _ o (Hx (hPL _ T)) ho,r⟩
   ·by_cases hb:b=P
    ·subst hb
     rw[aa]at e;cases e;exact htb'
    ·rw[ai hb]at e
     refine(I.hok b u e).stay (λc v hc q=>hx c v ?_ q) (λc q=>by rw[ai (dU q T (by intro z;cases z))];exact q) λc xs q=>by rw[ai (dU q T (by intro z;cases z))];exact q
     rcases hc with z|z
     ·rw[z];exact hb
     ·exact dU z T (by intro z;cases z)
  have hcn:(upd H P (.tbl #[Qp lpos.line,Qp lpos.col,.ref c'])) c'=none:=by rw[ai hcP];exact I.hok.fresh hge
  obtain⟨q0,q1,q2,q3,q4,q5⟩:=I.fpOk (b:=c') (H':=λ_=>none) hge rfl;have I2:=I1.adopt (D:=c') (o:=pf c' (X.env.qual++"<lambda>")) hcn q1 q3 q4 q5 (rM hrec);have I3:Inv X pins σ _ { s with heap:=h'.push (kla_obj "<lambda>" (X.env.qual++"<lambda>") params body scope cl ((X.mg "__name__").getD .none) c' ctv),toks:=tk }:=I2.kept (t':=tk) λb o e=>GD _ e
  have hfn:(upd (upd H P (.tbl #[Qp lpos.line,Qp lpos.col,.ref c'])) c' (pf c' (X.env.qual++"<lambda>"))) h'.objs.size=none:=I2.hok.fresh (GF _);obtain⟨r0,r1,r2,r3,r4,r5⟩:=I2.fpOk (b:=h'.objs.size) (H':=λ_=>none) (GF _) rfl;have I4:=I3.pins_of (pins':=(h'.objs.size,kla_obj "<lambda>" (X.env.qual++"<lambda>") params body scope cl ((X.mg "__name__").getD .none) c' ctv)::pins) λp hp=>by
   rcases GW.mp hp with rfl|hp
   ·exact⟨GT _ rfl,hfn,r1,r2,λv z=>by cases z⟩
   ·exact I3.pin p (GG _ hp)
  refine h _ c' _ ctv _ _ I4 (.inr ⟨c',by rw[ai (Hx hcP),aa],aa⟩) (λb o hb e=>?_) aa;rw[ai (λz=>by rw[z,I.hok.fresh hge]at e;cases e),ai hb];exact e
 ·have hP:s.heap.get? P=some (tabObj #[Qp lpos.line,Qp lpos.col,.ref c']):=I.hok P _ T
  refine kla_makeFunctionHit (mg:=X.mg) (cv:=.ref c') hcl I.ok.glob hg hcode C hP (show TriplesOk [_,_,_]from trivial) (codeAmong_snoc [] trivial rfl) hbs λctv h' tk hk hsz=>?_
  have I1:Inv X pins σ H { s with heap:=h',toks:=tk }:=I.kept (t':=tk) hk;have I3:Inv X pins σ H { s with heap:=h'.push (kla_obj "<lambda>" (X.env.qual++"<lambda>") params body scope cl ((X.mg "__name__").getD .none) c' ctv),toks:=tk }:=I1.kept (t':=tk) λb o e=>GD _ e
  obtain⟨r0,r1,r2,r3,r4,r5⟩:=I1.fpOk (b:=h'.objs.size) (H':=λ_=>none) (GF _) rfl;have I4:=I3.pins_of (pins':=(h'.objs.size,kla_obj "<lambda>" (X.env.qual++"<lambda>") params body scope cl ((X.mg "__name__").getD .none) c' ctv)::pins) λp hp=>by
   rcases GW.mp hp with rfl|hp
   ·exact⟨GT _ rfl,I1.hok.fresh (GF _),r1,r2,λv z=>by cases z⟩
   ·exact I3.pin p (GG _ hp)
  exact h _ c' _ ctv _ _ I4 (.inr ⟨c',T,Tc⟩) (SameX.refl _ _) Tc
def KeyR(H:Hp)(ys:List V)(lt:Nat->Nat->Bool):Prop:=
 (∃ns:List Int,ys=ns.map PR/\lt=λi j=>decide (ns.getD i 0<ns.getD j 0))\/
 (∃(rs:List Addr) (rss:List (List Int)),ys=rs.map PY/\rs.length=rss.length/\(∀(i:Nat) a r,rs[i]? = some a->rss[i]? = some r->H a=some (.tup (r.map PR)))/\((∀r∈rss,r=[])\/(∀r∈rss,r≠[]))/\lt=λi j=>HT.aY (rss.getD i []) (rss.getD j []))
theorem KeyR.lt{H:Hp}{lt:Nat->Nat->Bool}(k:KeyR H ys lt):Lt lt:=by
 rcases k with⟨ns,_,rfl⟩|⟨rs,rss,_,_,_,_,rfl⟩
 ·exact HT.zT ns
 ·exact HT.Cl rss
theorem KeyR.ask{lt:Nat->Nat->Bool}{ks:List Value}(k:KeyR H ys lt)(I:Inv X pins σ H s)(hu:A.units<cLine)(rv:Vals ys ks):∃κ:SortKind,
  (∀(Q:SortKind->Shared->Prop),2<=ks.length->Q κ s->wpAny (model X.prog X.w) A (keyKind' ks.toArray) Q (λ_ _=>False) s)/\
  (∀i j (Q:Bool->Shared->Prop),i<ks.length->j<ks.length->Q (lt i j) s->wpAny (model X.prog X.w) A (keyLt' κ (ks.getD i Hf) (ks.getD j Hf)) Q (λ_ _=>False) s):=by
 rcases k with⟨ns,rfl,rfl⟩|⟨rs,rss,rfl,hlen,ht,hw,rfl⟩
 ·have hi:=bF rv
  refine⟨oneType',λQ h2 hQ=>?_,λi j Q hi1 hj1 hQ=>?_⟩
  ·obtain⟨v₁,v₂,rest,rfl⟩:∃v₁ v₂ rest,ks=v₁::v₂::rest:=by
    match ks,h2 with
    | v₁::v₂::rest,_=>exact⟨v₁,v₂,rest,rfl⟩
   rw[keyKind_ints hi];exact P3 hQ
  ·obtain⟨t1,e1⟩:=HT.pd hi hi1
   obtain⟨t2,e2⟩:=HT.pd hi hj1;rw[e1,e2,keyLt'_oneType];exact oneLt_int hQ
 ·obtain rfl:=nB rv
  have hl:(rs.map Hb).length=rs.length:=GA _;have tup:∀(i:Nat) v r,(rs.map Hb)[i]? = some v->rss[i]? = some r->∃a its,v=.ref a/\IsTup s.heap a its/\P9 its.toList r:=λi v r e1 e2=>by
   rw[GE]at e1;obtain⟨a,ea,rfl⟩:=HU.mp e1;obtain⟨its,r1,hT,_⟩:=I.tuple (PQ (ht i a r ea e2));exact⟨a,its.toArray,rfl,hT,bF r1⟩
  have get:∀i,i<(rs.map Hb).length->(rs.map Hb)[i]? = some ((rs.map Hb).getD i Hf)/\rss[i]? = some (rss.getD i []):=λi hi=>by
   have h2:i<rss.length:=by lia
   constructor
   ·rw[GB,Gz hi];rfl
   ·rw[GB,Gz h2];rfl
  rcases hw with hw|hw
  ·refine⟨oneType',λQ h2 hQ=>HT.xi h2 (λv hv=>?_) hQ,λi j Q hi hj hQ=>?_⟩
   ·obtain⟨i,hi,ei⟩:=IP hv
    obtain⟨g1,g2⟩:=get i hi;obtain⟨a,its,rfl,t,ti⟩:=tup i v _ (by rw[Gz hi,ei]) g2;rw[hw _ (Hc g2)]at ti;obtain⟨its'⟩:=its;cases ti;exact⟨a,rfl,t⟩
   ·obtain⟨g1,g2⟩:=get i hi
    obtain⟨k1,k2⟩:=get j hj;obtain⟨a,its,e,t,ti⟩:=tup i _ _ g1 g2;obtain⟨a',its',e',t',ti'⟩:=tup j _ _ k1 k2;rw[e,e'];exact HT.zS hu t t' ti ti' hQ
  ·refine⟨tuples' true,λQ h2 hQ=>HT.uj h2 ⋯ tup hw hQ,λi j Q hi hj hQ=>?_⟩
   obtain⟨g1,g2⟩:=get i hi;obtain⟨k1,k2⟩:=get j hj;obtain⟨a,its,e,t,ti⟩:=tup i _ _ g1 g2;obtain⟨a',its',e',t',ti'⟩:=tup j _ _ k1 k2;rw[e,e'];exact HT.xh t t' ti ti' hQ
def z6(te:TE)(ix:List Nat)(xs:List V)(σ:St)(H:Hp)(Q:VK):Prop:=xs.length<64/\
 ∃W:Nat->List V->Hp->Prop,W 0 [] H/\(∀i ys H x,xs[i]? = some x->W i ys H->te (uy ix σ x) H λy H'=>Same H H'/\W (i+1) (ys++[y]) H')/\
  ∀ys H,ys.length=xs.length->W xs.length ys H->∃lt,KeyR H ys lt/\∀(d:Addr) (p:List Nat),H d=none->p.Perm (GH xs.length)->p.Pairwise (Ah lt)->Q (.ref d) (upd H d (.lst (p.map λi=>xs.getD i .non)))
theorem lT:∀{xs:List V}{us:List Value},Vals xs us->∀{i:Nat}{u:Value},us[i]? = some u->∃y,xs[i]? = some y/\RelV y u
 | _,_,.nil,_,_,h=>by simp at h
 | _,_,.cons r t,0,u,h=>by cases h;exact⟨_,rfl,r⟩
 | _,_,.cons r t,i+1,u,h=>by
  obtain⟨y,e,q⟩:=lT t (i:=i) (by simpa using h);exact⟨y,by simpa using e,q⟩
theorem uz(r:Vals xs us){p:List Nat}(h:∀i∈p,i<us.length):Vals (p.map λi=>xs.getD i .non) (p.map λi=>us.getD i Hf):=by
 refine lP λi hi=>?_
 have h1:=h i hi;obtain⟨y,e,q⟩:=lT r (Gz h1);rw[GB,GB,e,Gz h1];exact q
theorem uA{name:Str}{ctv:Value}{te:TE}{Q:VK}{f c':Addr}(c:LamOk X N x frs ix scope cl)(hc:X.calm=true)(hroom:X.A.in1.in1.depth<recursionLimit)(hu:X.A.in1.in1.units<cLine)
  (I:Inv X ((f,kla_obj name qual params body scope cl pm c' ctv)::pins) σ H s) (hH:H c'=some (pf c' qual)) (hbind:∀u,bindArgs (kla_fn name qual params body scope cl pm (.ref c') ctv) ⟨[u],[]⟩=pure [(x,u)])
  (he:∀C s H,PE (ux X N qual scope f c' cl X.A.in1.in1 C s H) body te)
  (hcol:∀(Q:List Value->Shared->Prop),(∀vs h1 tk,Vals xs vs->(∀b o,s.heap.get? b=some o->h1.get? b=some o)->Q vs { s with heap:=h1,toks:=tk })->wpAny (model X.prog X.w) X.A.in1 (collect (.ref l)) Q (λ_ _=>False) s)
  (h:z6 te ix xs σ H Q):wpAny (model X.prog X.w) X.A (call (.builtin "sorted") [.ref l] [(Hi "key",.ref f)]) (EP X pins σ Q) X.xe s:=by
 obtain⟨h64,W,w0,wst,wfin⟩:=h;refine HT.rL (G:=Vals xs) (λvs g=>by rw[<-g.length];exact h64) hcol λvs h1 h' tk a kS e1 g k1 k2 ha hak hkS hoA=>?_
 have hvl:vs.length=xs.length:=g.length.symm;generalize hfo:kla_obj name qual params body scope cl pm c' ctv=fo at I;have I1:Inv X ((f,fo)::pins) σ H { s with heap:=h1,toks:=tk }:=I.kept (t':=tk) k1;have I2:Inv X ((f,fo)::pins) σ H { s with heap:=h',toks:=tk }:=I1.kept (t':=tk) k2;obtain⟨_,a1,a2,a3,a4,a5⟩:=I1.fpOk (b:=a) (H':=λ_=>none) ha rfl;have hak':@LT.lt Nat _ a kS:=hak;have hk:h1.objs.size<=kS:=HK (HI ha hak');obtain⟨_,b1,b2,b3,b4,b5⟩:=I1.fpOk (b:=kS) (H':=λ_=>none) hk rfl;have hka:kS≠a:=Ho hak';have I3:Inv X ((a,seqObj "list" #[] e1)::(kS,seqObj "list" ([]:List Value).toArray 0)::(f,fo)::pins) σ H { s with heap:=h',toks:=tk }:=I2.pins_of λp hp=>by
  rcases GW.mp hp with rfl|hp
  ·exact⟨hoA,I1.hok.fresh ha,a1,a2,λv z=>by cases z⟩
  ·rcases GW.mp hp with rfl|hp
   ·exact⟨hkS,I1.hok.fresh hk,b1,b2,λv z=>by cases z⟩
   ·exact I2.pin p (GG _ hp)
 have old:∀{pn:List (Addr×Obj)}{H':Hp}{s':Shared}{u:Obj}{it:Addr},Inv X pn σ H' s'->H' it=none->it≠X.env.locals->(it∈X.ex\/X.s₀.heap.objs.size<=it)->(∀x c,X.env.cells.lookup x=some c->c≠it)->(∀p∈X.pn++pn,p.1≠it)->∀g:Obj->Obj,Inv X pn σ H' { s' with heap:=s'.heap.update it g }:=
  λ{pn H' s' u it} J n1 n2 n3 n4 n5 g=>J.turned (t':=s'.toks) (it:=it) (λb o hb e=>((Jq s'.heap it g).2 b hb).trans e) n1 n2 n3 n4 n5
 have pinF:∀p∈X.pn++((f,fo)::pins),p.1≠a/\p.1≠kS:=λp hp=>⟨a5 p hp,b5 p hp⟩
 refine HT.xn (λi ks s'=>∃ys H' e,Inv X ((a,seqObj "list" #[] e1)::(kS,seqObj "list" ks.toArray e)::(f,fo)::pins) σ H' s'/\Vals ys ks/\W i ys H'/\H' c'=some (pf c' qual)/\ks.length=i) ⟨[],H,0,I3,.nil,w0,hH,rfl⟩ ⋯ ?_ ?_
 ·rintro i u ks s' hu' ⟨ys,H',e,J,rv,hw,hHc,hkl⟩
  refine⟨hkl,?_⟩;obtain⟨xv,ex,rx⟩:=lT g hu';have q:=wst i ys H' xv ex hw;have hfp:=(J.pin (f,fo) (GG _ (.tail _ (.tail _ (.head _))))).1;rw[<-hfo]at hfp;have hrec:s'.heap.CodeRec (.ref c') qual:=(J.hok c' _ hHc).1;refine P8 (xp c J (show X.A.in1.in1.frames=some X.stack from J.ok.frames) (J.ok.hd hc) hroom hfp hrec (hbind u) rx he q) (λk s2 hk2=>?_) λ_ _ z=>z
  obtain⟨y,H2,J2,ry,sm,hw2⟩:=hk2;obtain⟨p1,p2,p3,p4,p5⟩:=J2.pin (kS,seqObj "list" ks.toArray e) (GG _ (.tail _ (.head _)));refine⟨e,p1,ys++[y],H2,?_⟩;have J3:Inv X ((a,seqObj "list" #[] e1)::(f,fo)::pins) σ H2 s2:=J2.pins_of λp hp=>by
   rcases GW.mp hp with rfl|hp
   ·exact J2.pin _ (GG _ (.head _))
   ·exact J2.pin p (GG _ (.tail _ (.tail _ hp)))
  have J4:=old (u:=fo) J3 p2 b1 b3 b4 (λp hp=>by
   rcases G9.mp hp with hp|hp
   ·exact(pinF p (HL _ hp)).2
   ·rcases GW.mp hp with rfl|hp
    ·exact Hx hka
    ·exact(pinF p (GG _ hp)).2) (Hd (·.push k))
  obtain⟨c2,hc2⟩:∃c2,(s2.heap.update kS (Hd (·.push k))).get? kS=some (seqObj "list" (ks.toArray.push k) c2):=⟨_,QH p1 (·.push k)⟩
  have eu:ks.toArray.push k=(ks++[k]).toArray:=by simp
  rw[eu]at hc2;refine⟨c2,J4.pins_of λp hp=>?_,rv.append (.cons ry .nil),hw2,sm _ _ hHc,by simp[hkl]⟩;rcases GW.mp hp with rfl|hp
  ·exact J4.pin _ (GG _ (.head _))
  ·rcases GW.mp hp with rfl|hp
   ·exact⟨hc2,p2,p3,p4,λv z=>by cases z⟩
   ·exact J4.pin p (GG _ (.tail _ hp))
 ·rintro ks s' ⟨ys,H',e,J,rv,hw,hHc,hkl⟩
  have hyl:ys.length=xs.length:=by rw[rv.length,hkl,hvl]
  rw[hvl]at hw;obtain⟨lt,hK,fin⟩:=wfin ys H' hyl hw;obtain⟨κ,ask1,ask2⟩:=hK.ask (A:=X.A.in1.in1) J hu rv;obtain⟨p1,p2,p3,p4,p5⟩:=J.pin (kS,seqObj "list" ks.toArray e) (GG _ (.tail _ (.head _)));obtain⟨r1,r2,r3,r4,r5⟩:=J.pin (a,seqObj "list" #[] e1) (GG _ (.head _));refine⟨e,p1,HT.zZ hka r1 p1 hkl ⋯ hK.lt (λQ' h2 hQ=>ask1 Q' ⋯ hQ) (λi j Q' hi hj hQ=>ask2 i j Q' ⋯ ⋯ hQ) λp hp hs=>⟨rfl,?_⟩⟩;rw[hvl]at hp;have J0:Inv X pins σ H' s':=J.pins_of λp hp=>J.pin p (GG _ (.tail _ (.tail _ (.tail _ hp))))
  have hpins:∀it,(∀p∈X.pn++((f,fo)::pins),p.1≠it)->∀p∈X.pn++pins,p.1≠it:=λit hh p hp=>hh p (by
   rcases G9.mp hp with hp|hp
   ·exact HL _ hp
   ·exact GG _ (.tail _ hp))
  have J1:=old (u:=fo) J0 p2 b1 b3 b4 (hpins kS b5) (Hd λ_=>(#[]:Array Value));have J2:=old (u:=fo) J1 r2 a1 a3 a4 (hpins a a5) (Hd λ_=>Hk (p.map λi=>vs.getD i Hf));have oa:(s'.heap.update kS (Hd λ_=>(#[]:Array Value))).get? a=some (seqObj "list" #[] e1):=((Jq s'.heap kS _).2 a (Hx hka)).trans r1;obtain⟨c2,hc2⟩:∃c2,((s'.heap.update kS (Hd λ_=>(#[]:Array Value))).update a (Hd λ_=>Hk (p.map λi=>vs.getD i Hf))).get? a=some (seqObj "list" (Hk (p.map λi=>vs.getD i Hf)) c2):=⟨_,QH oa _⟩
  have hpl:=hp.length_eq;rw[HH]at hpl;have J3:=J2.adopt (D:=a) (o:=.lst (p.map λi=>xs.getD i .non)) r2 a1 a3 a4 (hpins a a5) ⟨by rw[GA,hpl,Qb];lia,_,c2,uz g λi hi=>by rw[hvl];exact Hj.mp (hp.mem_iff.mp hi),hc2⟩;exact⟨.ref a,_,J3,rfl,fin a p r2 hp hs⟩
def uB(P:Addr)(lpos:Pos)(qual:Str)(ix:List Nat)(te:TE)(t:TA):TE:=λσ H Q=>t σ H λvs H1=>∃n:Nat,vs=[.int n]/\n<64/\TabOk P lpos qual H1/\∀H2,SameX P H1 H2->TabOk P lpos qual H2->z6 te ix (cP 0 n) σ H2 Q
section
variable{te:TE}{t:TA}{p p2 pos pos2 kpos:Pos}{e a:Expr}{k:Nat}{qual:Str}
theorem Cq{Q:List Value->Shared->Prop}{lam:Expr}(h:wpAny (model X.prog X.w) X.A (eval lam X.env) (λv s'=>Q [v] s') E s):
  wpAny (model X.prog X.w) X.A (evalAll ((backToKw pos (keywordEach [⟨some "key",lam,kpos⟩] X.env)).map (·.2))) Q E s:=by
 show wpAny _ _ (evalAll ((do let v <-eval lam X.env;standAt pos;pure v)::[])) _ _ s
 exact wpAny_evalAll_cons (P2 (P8 h (λv s' hq=>P2 (Qr (P3 (wpAny_evalAll_nil hq)))) λ_ _ z=>z))
theorem uC(hr:Room k X.A):X.A.in1.in1.depth<recursionLimit/\X.A.in1.in1.units<cLine:=⟨hr.depth,by have:=hr.units;show X.A.units+1+1<_;lia⟩
theorem uD (c:LamOk X N x frs ix scope cl) (hc:X.calm=true) (hr:Room k X.A) (hg:Gl X "sorted") (hm:X.mg "sorted" = none) (hgr:Gl X "range") (hmr:X.mg "range" = none) (hcode:X.env.code=.ref cc) (hcd:codeHdIn X.K cc P=true) (hb:X.base.BuiltinsAt X.mg P) (ha:QA X [a] t)
  (he:∀A f c' C s H,QE (ux X N (X.env.qual++"<lambda>") scope f c' cl A C s H) body te) (hbind:∀u pm c' ctv,bindArgs (kla_fn "<lambda>" (X.env.qual++"<lambda>") params body scope cl pm (.ref c') ctv) ⟨[u],[]⟩=pure [(x,u)])
  (hdef:defaultsOf params X.env=([],[]):=by rfl) (hn:bQ a=true:=by rfl):QE X (.Call (.Name "sorted" p) [.Call (.Name "range" p2) [a] [] pos2] [⟨some "key",.Lambda params body scope lpos,kpos⟩] pos) (uB P lpos (X.env.qual++"<lambda>") ix te t):=by
 refine⟨λpins s σ H Q I h=>?_⟩;refine Qu (dh I hg hm (by decide +kernel:bootBuiltins "sorted" = some (.builtin "sorted")) ?_);refine callWith_kw ?_ (by rfl) (by rfl);refine IV (Call_ (dh I hgr hmr boot_range (Hz (thn (ha.out pos2 pins s σ H _ I h) λus s1 hu=>?_) (aC hn) rfl)));obtain⟨vs,H1,I1,r1,n,rfl,hn64,T1,q⟩:=hu;obtain⟨u,rfl,ru⟩:=gD r1;obtain⟨tt,rfl⟩:=ru;refine call_range_1 (JA ?_);obtain⟨w0,w1,w2,w3,w4,w5⟩:=I1.fpOk (b:=s1.heap.objs.size) (H':=λ_=>none) (GF _) rfl;have I1':Inv X ((s1.heap.objs.size,{ cls:=.type "range",data:=.fields #[.int 0 s1.toks,.int n tt,.int 1 (s1.toks+1)] })::pins) σ H1 { s1 with heap:=s1.heap.push { cls:=.type "range",data:=.fields #[.int 0 s1.toks,.int n tt,.int 1 (s1.toks+1)] },toks:=s1.toks+1+1 }:=by
  have K:=I1.kept (h':=s1.heap.push { cls:=.type "range",data:=.fields #[.int 0 s1.toks,.int n tt,.int 1 (s1.toks+1)] }) (t':=s1.toks+1+1) λb o e=>GD _ e
  refine K.pins_of λp hp=>?_
  rcases GW.mp hp with rfl|hp
  ·exact⟨GT _ rfl,I1.hok.fresh (GF _),w1,w2,λv z=>by cases z⟩
  ·exact K.pin p (GG _ hp)
 refine Cq (xq c.clos I1' hcode hcd hb hdef T1 λf c' pm ctv H2 s2 I2 T2 sx hc2=>?_);obtain⟨g1,g2⟩:=uC hr;refine thn (uA (l:=s1.heap.objs.size) (xs:=cP 0 n) c hc g1 g2 I2 hc2 (λu=>hbind u pm c' ctv) (λC s H=>(he _ _ _ C s H).out) (λQ' hQ=>?_) (q H2 sx T2)) λv s3 hv=>?_
 ·have hrg:=(I2.pin (s1.heap.objs.size,{ cls:=.type "range",data:=.fields #[.int 0 s1.toks,.int n tt,.int 1 (s1.toks+1)] }) (GG _ (.tail _ (.head _)))).1
  refine HT.lS (n:=n) (I2.ok.hd hc) hrg (small_one ⋯ ⋯ ⋯ ⋯) (by rw[rangeSize_one];split<;>lia) ⋯ λh' tk acc k hit=>hQ _ h' tk ?_ k
  obtain⟨hz,hit⟩:=hit;refine oV (by simp[cP,hz]) λk x w a b=>?_
  have hk':k<n:=by have:=(GQ.mp a).1;simpa [cP]using this
  unfold cP at a;rw[GE,Hu hk']at a;obtain rfl:=G8 a;obtain⟨t2,rfl⟩:=hit k w (by simpa using b);refine⟨t2,?_⟩;rw[Nz,NS];rfl
 ·obtain⟨y,H',J,ry,hq⟩:=hv
  exact⟨y,H',J.pins_of λp hp=>J.pin p (GG _ (.tail _ hp)),ry,hq⟩
end
end
theorem uE{w:World}{K:GC}{mg mb:Str->Option Value}{CX:CXT}{k:Nat}{fa c Pt:Addr}{fd:FuncData}{sp:Sp}{s₁:Shared}{ns:List Int}
  (KX:K.In s₁.heap) (hns:s₁.heap.Ns mainGlobals mg) (hb:s₁.heap.Ns builtinsNs mb) (hbb:∀x:Str,x≠"__name__"->mb x=bootBuiltins x) (hlim:s₁.heap.NoLimit) (hg:s₁.gens=#[])
  (hbm:∃bm ob,mg "__builtins__" = some (.ref bm)/\bm≠builtinsNs/\s₁.heap.get? bm=some ob/\ob.cls=.type "module"/\ob.dict=some builtinsNs/\ob.data=.plain)
  (hcd:CodeHd s₁.heap c Pt) (hT:s₁.heap.get? Pt=some (tabObj #[])) (hKP:K.lookup Pt=none)
  (ha:s₁.heap.get? a=some { cls:=.type "list",data:=.seq vs.toArray }) (hi:P9 vs ns) (hl:ns.length<=P4) (hr:Room k callerA)
  (F:∀base:Heap,K.In base->base.Ns mainGlobals mg->base.BuiltinsAt mg Pt->FnOk P w K mg base CX k fa fd [x] sp) (hbind:∀(s:Shared) (u:Value),BindsTo s fd ⟨[u],[]⟩ [(x,u)])
  (hsp:∀H:Hp,H Pt=some (.tbl #[])->SqL K H a (ns.map PR)->sp [.ref a] H (λv _=>v=.bl true) λ_ _ _=>False)
  (hCX:∀H e s',CX [] H s₁ (λ_ _ _=>False) e s'->False) :
  codeAny (model P w) callerA (.call (.ref fa) ⟨[.ref a],[]⟩) (λr s'=>r=.ok (.ret (.bool true))/\OldK s₁.heap s'.heap/\s'.os=s₁.os/\AllBare s'.gens) s₁:=by
 have rv:=m7 hi;have lenV:=hi.length;have haP:a≠Pt:=λz=>by rw[z,hT]at ha;cases ha
 have core:∀H:Hp,H Pt=some (.tbl #[])->(∀b,H b=none\/b=Pt\/∃o xs,H b=some (.frz o (.lst xs)))->SqL K H a (ns.map PR)->HOk P w H s₁.heap->(∀b,H b≠none->b=a\/b=Pt)->(H a≠none->K.lookup a=none)->
   codeAny (model P w) callerA (.call (.ref fa) ⟨[.ref a],[]⟩) (λr s'=>r=.ok (.ret (.bool true))/\OldK s₁.heap s'.heap/\s'.os=s₁.os/\AllBare s'.gens) s₁:=by
  intro H hP hO hS hok hA hK;have base_of:∀{b:Addr}{o:Obj},s₁.heap.get? b=some o->H b=none->(vZ s₁.heap H).get? b=some o:=λe n=>we e n
  have noA:∀{b:Addr}{o:Obj},s₁.heap.get? b=some o->(∀its n,o.data≠.seq its n)->(∀fs,o.data≠.fields fs)->H b=none:=λ{b o} e d1 d2=>by
   cases q:H b with
   | none=>rfl
   | some u=>
    rcases hA b (by rw[q];simp)with e'|e'
    ·subst e'
     rw[ha]at e;cases e;exact absurd rfl (d1 _ _)
    ·subst e'
     rw[hT]at e;cases e;exact absurd rfl (d2 _)
  have nsK:∀{b:Addr}{m:Str->Option Value},s₁.heap.Ns b m->(vZ s₁.heap H).Ns b m:=λ{b m} ⟨o,es,ep,e,d,r⟩=>⟨o,es,ep,base_of e (noA e (λ_ _ z=>by rw[d]at z;cases z) (λ_ z=>by rw[d]at z;cases z)),d,r⟩
  have hKb:K.In (vZ s₁.heap H):=λb o e=>base_of (KX b o e) (by
   cases q:H b with
   | none=>rfl
   | some u=>
    rcases hA b (by rw[q];simp)with e'|e'
    ·subst e'
     rw[hK (by rw[q];simp)]at e;cases e
    ·subst e'
     rw[hKP]at e;cases e)
  have hM:Mod K mg (vZ s₁.heap H):=⟨hKb,nsK hns,⟨mb,nsK hb,hbb⟩,let⟨mc,h1,h2⟩:=hlim;⟨mc,nsK h1,h2⟩⟩;have hBA:(vZ s₁.heap H).BuiltinsAt mg Pt:=by
   obtain⟨bm,ob,b1,b2,b3,b4,b5,b6⟩:=hbm;refine⟨bm,ob,b1,b2,λz=>?_,λz=>?_,base_of b3 (noA b3 (λ_ _ z=>by rw[b6]at z;cases z) (λ_ z=>by rw[b6]at z;cases z)),b4,b5,b6⟩
   ·obtain⟨o,es,ep,e,d,_⟩:=hns
    rw[z,e]at b3;cases b3;rw[d]at b6;cases b6
   ·rw[z,hT]at b3;cases b3;cases b6
  have e0:Env0 P w K mg (vZ s₁.heap H) callerA [] s₁ H:=⟨rfl,hM,λb o e=>yX e,HR (sj _ _),trivial,λb hb=>absurd (show b∈([]:List Addr)from hb) (by simp),hok,.of_eq hg⟩;refine QM ((F _ hKb (nsK hns) hBA).run callerA [] s₁ H ⟨[.ref a],[]⟩ [.ref a] [.ref a] _ _ hr e0 (hbind s₁ (.ref a)) (.cons rfl .nil) (hsp H hP hS)) λr s' h=>?_
  cases r with
  | error e=>exact(hCX H e s' h).elim
  | ok fl=>
   cases fl with
   | next=>exact IG h
   | brk=>exact IG h
   | cont=>exact IG h
   | ret u=>
    obtain⟨v,H',os,bare,un,hok',r',q⟩:=h;have q':v=.bl true:=q;subst q';obtain rfl:u=Jc true:=r';refine⟨rfl,⟨λb o e=>?_,λb o e=>un.there b o e (by simp)⟩,os,bare⟩;cases q:H b with
    | none=>exact .inl (un.keep b o e q (by intro z;exact absurd (show b∈([]:List Addr)from z) (by simp)) (by simp))
    | some u=>
     rcases hO b with z|z|⟨ob,xs,z⟩
     ·rw[q]at z;cases z
     ·subst z
      rw[hT]at e;cases e;obtain⟨more,em⟩:=un.tbls b #[] hP;exact .inr (.inl ⟨(hcd.tab hT).isCodeTable,rfl,#[],more,rfl,hok' b _ em⟩)
     ·have z2:=un.frzs b ob _ z
      obtain⟨e1,_⟩:=hok b _ z;obtain⟨e2,_⟩:=hok' b _ z2;rw[e]at e1;cases e1;exact .inl e2
 cases hk:K.lookup a with
 | some o=>
  have e:=KX a o hk;rw[ha]at e;cases e;refine core (λb=>if b=Pt then some (.tbl #[])else none) (if_pos rfl) (λb=>?_) (.inr ⟨_,vs.toArray,_,hk,rfl,rfl,rfl,by rw[GO,lenV];exact hl,by simpa using rv⟩) (λb u z=>?_) (λb z=>?_) (λz=>absurd (if_neg haP) z)
  ·by_cases hb:b=Pt
   ·exact .inr (.inl hb)
   ·exact .inl (if_neg hb)
  ·by_cases hb:b=Pt
   ·have z':=(if_pos hb).symm.trans z
    cases z';subst hb;exact hT
   ·have z':=(if_neg hb).symm.trans z
    cases z'
  ·by_cases hb:b=Pt
   ·exact .inr hb
   ·exact absurd (if_neg hb) z
 | none=>
  have e1:∀b,(if b=Pt then some (.tbl #[])else if b=a then some (.frz { cls:=.type "list",data:=.seq vs.toArray } (.lst (ns.map PR)))else none:Option HO)=if b=Pt then some (.tbl #[])else if b=a then some (.frz { cls:=.type "list",data:=.seq vs.toArray } (.lst (ns.map PR)))else none:=λb=>rfl
  have ea:(if a=Pt then some (.tbl #[])else if a=a then some (.frz { cls:=.type "list",data:=.seq vs.toArray } (.lst (ns.map PR)))else none:Option HO)=some (.frz { cls:=.type "list",data:=.seq vs.toArray } (.lst (ns.map PR))):=by rw[if_neg haP,if_pos rfl]
  refine core (λb=>if b=Pt then some (.tbl #[])else if b=a then some (.frz { cls:=.type "list",data:=.seq vs.toArray } (.lst (ns.map PR)))else none) (if_pos rfl) (λb=>?_) (.inl (.inr ⟨{ cls:=.type "list",data:=.seq vs.toArray },ea⟩)) (λb u z=>?_) (λb z=>?_) (λ_=>hk)
  ·by_cases hb:b=Pt
   ·exact .inr (.inl hb)
   ·by_cases hb2:b=a
    ·exact .inr (.inr ⟨_,_,by rw[hb2];exact ea⟩)
    ·exact .inl (by show(if b=Pt then _ else _)=_;rw[if_neg hb,if_neg hb2])
  ·by_cases hb:b=Pt
   ·have z':=(if_pos hb).symm.trans z
    cases z';subst hb;exact hT
   ·by_cases hb2:b=a
    ·subst hb2
     have z':=ea.symm.trans z;cases z';exact⟨ha,by rw[GA];exact hl,vs,_,rv,ha⟩
    ·have z':(if b=Pt then some (.tbl #[])else if b=a then some (.frz { cls:=.type "list",data:=.seq vs.toArray } (.lst (ns.map PR)))else none:Option HO)=some u:=z
     rw[if_neg hb,if_neg hb2]at z';cases z'
  ·by_cases hb:b=Pt
   ·exact .inr hb
   ·by_cases hb2:b=a
    ·exact .inl hb2
    ·exact absurd (show(if b=Pt then some (.tbl #[])else if b=a then some (.frz { cls:=.type "list",data:=.seq vs.toArray } (.lst (ns.map PR)))else none:Option HO)=none by rw[if_neg hb,if_neg hb2]) z
theorem xr{K:GC}{Pt:Addr}(X:K.In h)(hT:h.get? Pt=some (tabObj #[]))(hK:noTabs K=true):K.lookup Pt=none:=by
 cases e:K.lookup Pt with
 | none=>rfl
 | some o=>
  have e2:=X _ _ e;rw[hT]at e2;cases e2;exact absurd (Jl.mp hK _ (mem_of_lookupK e)) G3
theorem xt{l:Mn}{k:Nat}{q:Program}{loose:List Str}{XP:(Str->Option Value)->Heap->Prop}{YP:World->Heap->Prop}{d:DefRec}{K:Params->GC}{CX:World->CXT}{sp:World->Addr->Sp}{Pt:Addr}
  (hn:l.most=some n) (hn2:n<=P4) (hdf:d.params.defaults=[]) (hr:Room k callerA)
  (hY:∀(w:World) (h:Heap),YP w h->(K w.params).In h)
  (hYT:∀(w:World) (h:Heap),YP w h->h.get? Pt=some (tabObj #[])) (hnt:∀w:World,noTabs (K w.params)=true)
  (F:∀(w:World) (mg:Str->Option Value) (fa:Addr) (h:Heap),(K w.params).In h->h.Ns mainGlobals mg->mg d.name=some (.ref fa)->
   ∃fd:FuncData,(∃c,codeHdIn (K w.params) c Pt=true)/\(∀(s:Shared) (u:Value),BindsTo s fd ⟨[u],[]⟩ [(x,u)])/\
    ∀base:Heap,(K w.params).In base->base.Ns mainGlobals mg->base.BuiltinsAt mg Pt->FnOk l.prog w (K w.params) mg base (CX w) k fa fd [x] (sp w Pt))
  (hsp:∀(w:World) (H:Hp) (a:Addr) (ns:List Int),ns.length<=n->H Pt=some (.tbl #[])->SqL (K w.params) H a (ns.map PR)->sp w Pt [.ref a] H (λv _=>v=.bl true) λ_ _ _=>False)
  (hCX:∀(w:World) (H:Hp) (s:Shared) (e:Value) (s':Shared),CX w [] H s (λ_ _ _=>False) e s'->False) :
  Od q loose XP YP l.row.toRowW d [] (λf vs=>NQ f vs):=by
 refine Att.oJ hn hdf λw s₀ s₁ mg mb fa o pm cd doc a vs ns G Y ho hd hcd hmg hobj hints hlen hg=>?_
 have KX:=hY w _ Y;obtain⟨fd,⟨c,hchd⟩,hb,hF⟩:=F w mg fa _ KX G.T.g hmg;have hT:=hYT w _ Y;have hC:=codeHd_of_K KX hchd;exact uE KX G.T.g G.T.b G.T.builtins G.T.nolimit hg G.T.bmain hC hT (xr KX hT (hnt w)) hobj hints (HJ hlen hn2) hr hF hb (λH hP hS=>hsp w H a ns hlen hP hS) λH e s'=>hCX w H s₁ e s'
section
variable{P:Program}{w:World}{K:GC}{mg:Str->Option Value}{base:Heap}
theorem Fun.okC{f cc:Addr}{fd:FuncData}{N ps:List Str}{k:Nat}{sp:Sp}(F:Fun K x qual st f fd)(hcc:fd.code=.ref cc)(S:FnScope N ps (ao st))(len:∀vs H Q E,sp vs H Q E->vs.length=ps.length)
  (hbody:∀(A:Around) (outer:List Env) (s:Shared) (H:Hp) (vs:List V) (Q:VK) (E:XK),Room k (A.deeper (envOfC qual (ao st) s.heap.objs.size f (.ref cc)))->sp vs H Q E->
   ∃t,QB (yl CX0 P w K mg base N qual (ao st) f (.ref cc) A outer s H E).nox (fb st) t/\t { nx:=λ_ H'=>Q .non H',rt:=Q } (start N vs) H):FnOk P w K mg base CX0 (k+1) f fd ps sp:=by
 obtain⟨oc,od,kV,doc,pm,an,cdv,ct,osl,rfl,lk,hcd⟩:=F.ex;have e:cdv=.ref cc:=hcc;subst e;refine Bz lk hcd S len λA outer s H vs Q E hr hsp=>?_
 obtain⟨t,h,q⟩:=hbody A outer s H vs Q E hr hsp;exact⟨t,h.out.nox,q⟩
end
section
variable{X:Cx}{o:Expr}{to:TE}{pos apos cpos:Pos}
end
end L2
namespace L2
open PySem PySem.Spec PyProof.Rows
section
variable{X:Cx}
end
section
variable{K:GC}{H:Hp}{Q:VK}
end
section
variable{H:Hp}{n w:Nat}
end
section
variable{H H1 H2:Hp}
end
section
variable{H H1:Hp}{p a:Addr}{o:HO}
end
section
variable{H H1:Hp}{x:V}{os:List Nat}{a:Addr}{xs:List V}
end
theorem Rk.tr0{k:Nat}(h1:Rk rss c i j)(h2:Rk rss c j k):Rk rss c i k:=by
 unfold Rk at *;rcases h1 with h1|⟨e1,l1⟩
 ·rcases h2 with h2|⟨e2,l2⟩
  ·exact .inl (t7 h1 h2)
  ·rw[e2]at h1;exact .inl h1
 ·rcases h2 with h2|⟨e2,l2⟩
  ·rw[<-e1]at h2;exact .inl h2
  ·exact .inr ⟨e1.trans e2,by lia⟩
structure Seg (rss:List (List Nat)) (f l:Nat) (x:List Nat):Prop where
 perm:x.Perm (Je f (l - f))
 sort:x.Pairwise (Rk rss 0)
section
variable{rss:List (List Nat)}{f m l:Nat}{x y:List Nat}
theorem Seg.len(h:Seg rss f l x):x.length=l - f:=by have:=h.perm.length_eq;simpa using this
theorem Seg.mem(h:Seg rss f l x)(hi:i∈x):f<=i/\i<l:=by
 have:=h.perm.mem_iff.mp hi;rw[List.mem_range'_1]at this;lia
theorem Seg.both(hx:Seg rss f m x)(hy:Seg rss m l y)(h1:f<=m)(h2:m<=l):(x++y).Perm (Je f (l - f)):=by
 have e:Je f (l - f)=Je f (m - f)++Je m (l - m):=by
  rw[show l - f=(m - f)+(l - m)by lia,<-MT,show f+(m - f)=m by lia]
 rw[e];exact hx.perm.append hy.perm
end
noncomputable def Part(rss:List (List Nat)):Nat->List Nat->List Nat->Prop
 | _,[],o=>o=[]
 | f,a::r,o=>∃x y,o=x++y/\x.length=a/\Seg rss f (f+a) x/\Part rss (f+a) r y
section
variable{rss:List (List Nat)}
theorem Part.len:∀{ls:List Nat}{f:Nat}{o:List Nat},Part rss f ls o->o.length=ls.sum
 | [],_,_,h=>by rw[show _=[]from h];rfl
 | a::r,f,o,⟨x,y,e,hx,_,hy⟩=>by rw[e,GZ,hx,Part.len hy,IB]
theorem Part.snoc:∀{ls:List Nat}{f a:Nat}{o x:List Nat},Part rss f ls o->Seg rss (f+ls.sum) (f+ls.sum+a) x->Part rss f (ls++[a]) (o++x)
 | [],f,a,o,x,h,g=>by
  rw[show o=[]from h];exact⟨x,[],by simp,by have:=g.len;lia,by simpa using g,rfl⟩
 | b::r,f,a,o,x,⟨u,v,e,hu,hs,hv⟩,g=>by
  refine⟨u,v++x,by rw[e,HY],hu,hs,Part.snoc hv ?_⟩;rw[IB,<-Lo]at g;exact g
noncomputable def RnS(rss:List (List Nat))(n:Nat):List eS->List Nat->Prop
 | [],o=>Seg rss 0 n o
 | s::r,o=>s.1<=s.2.1/\s.2.1<=s.2.2/\s.2.2<=o.length/\Seg rss s.1 s.2.1 ((o.drop s.1).take (s.2.1 - s.1))/\Seg rss s.2.1 s.2.2 ((o.drop s.2.1).take (s.2.2 - s.2.1))/\
  ∀x,Seg rss s.1 s.2.2 x->RnS rss n r (o.take s.1++x++o.drop s.2.2)
theorem RnS.round{rest:List eS}(f:Nat)(ls:List Nat):∀{don pre o:List Nat},Part rss 0 don pre->don.sum=f->Part rss f ls o->(∀o',Part rss 0 (don++(rnd f ls).2) o'->RnS rss n rest o')->RnS rss n ((rnd f ls).1++rest) (pre++o):=by
 induction f,ls using rnd.induct with
 | case1 f a b r ih=>
  rintro don pre o hd hf ⟨x,o1,rfl,hx,sx,y,z,rfl,hy,sy,hz⟩ k;have hpl:pre.length=f:=by rw[hd.len,hf]
  rw[iz];have d1:(pre++(x++(y++z))).drop f=x++(y++z):=by rw[<-hpl,MJ]
  have d2:(pre++(x++(y++z))).drop (f+a)=y++z:=by
   rw[<-Ke,d1,<-hx,MJ]
  have d3:(pre++(x++(y++z))).drop (f+a+b)=z:=by
   rw[<-Ke,d2,<-hy,MJ]
  refine⟨IQ _ _,IQ _ _,?_,?_,?_,λw sw=>?_⟩
  ·show f+a+b<=_
   simp only[GZ];lia
  ·show Seg rss f (f+a) (((pre++(x++(y++z))).drop f).take (f+a - f))
   rw[d1,show f+a - f=x.length by lia,MK];exact sx
  ·show Seg rss (f+a) (f+a+b) (((pre++(x++(y++z))).drop (f+a)).take (f+a+b - (f+a)))
   rw[d2,show f+a+b - (f+a)=y.length by lia,MK];exact sy
  ·show RnS rss n _ ((pre++(x++(y++z))).take f++w++(pre++(x++(y++z))).drop (f+a+b))
   rw[d3];have t1:(pre++(x++(y++z))).take f=pre:=by rw[<-hpl,MK]
   rw[t1];refine ih (don:=don++[a+b]) (hd.snoc ?_) (by simp;lia) hz λo' ho'=>?_
   ·rw[hf,LU,show f+(a+b)=f+a+b by lia];exact sw
   ·refine k o' ?_
    rw[iz];rw[HY]at ho';exact ho'
 | case2 f a=>
  rintro don pre o hd hf ⟨x,o1,rfl,hx,sx,rfl⟩ k;rw[iA,KL,Ic];refine k _ ?_;rw[iA];refine hd.snoc ?_;rw[hf,LU];exact sx
 | case3 f=>
  rintro don pre o hd hf ho k;rw[show o=[]from ho,fg,KL,Ic];refine k _ ?_;rw[fg,Ic];exact hd
theorem RnS.all:∀(m:Nat) (ls:List Nat){o:List Nat},ls.length<=m->Part rss 0 ls o->RnS rss ls.sum (fS ls) o
 | 0,ls,o,h,p=>by
  have:ls=[]:=Ib.mp ⋯;subst this;rw[gT (by simp),show o=[]from p];exact⟨Jh _,Kk⟩
 | m+1,ls,o,h,p=>by
  by_cases g:1<ls.length
  ·obtain⟨l1,l2⟩:=jM 0 ls
   rw[jN g];have:=RnS.round (rss:=rss) (n:=ls.sum) (rest:=fS (rnd 0 ls).2) 0 ls (don:=[]) (pre:=[]) (o:=o) rfl rfl p λo' ho'=>by
    have:=RnS.all m (rnd 0 ls).2 ⋯ ho';rw[ue]at this;exact this
   simpa using this
  ·rw[gT g]
   match ls,p with
   | [],p=>rw[show o=[]from p];exact⟨Jh _,Kk⟩
   | [a],⟨x,y,e,hx,sx,hy⟩=>
    rw[show y=[]from hy,Ic]at e;subst e;show Seg rss 0 _ _
    simpa using sx
   | a::b::r,_=>exact absurd (by simp) g
def Rise(rss:List (List Nat))(f a:Nat):Prop:=∀i,f<=i->i+1<f+a->brk rss (i+1)=false
theorem Rise.seg{a:Nat}(h:Rise rss f a):Seg rss f (f+a) (Je f a):=by
 refine⟨by rw[show f+a - f=a by lia],?_⟩;have step:∀i,f<=i->i+1<f+a->Rk rss 0 i (i+1):=λi h1 h2=>by
  have:=h i h1 h2;unfold brk at this;rw[Ld]at this;unfold Rk;rw[Ht,Ht];rcases o3 (rss.getD i []) (rss.getD (i+1) [])with q|q|q
  ·exact .inl q
  ·exact .inr ⟨q,by lia⟩
  ·rw[q]at this;cases this
 have far:∀d i,f<=i->i+d+1<f+a->Rk rss 0 i (i+d+1):=λd=>by
  induction d with
  | zero=>exact λi h1 h2=>step i h1 h2
  | succ d ih=>exact λi h1 h2=>(ih i h1 ⋯).tr0 (step (i+d+1) ⋯ ⋯)
 rw[Hq];intro i j hi hj hij;simp only[List.length_range']at hi hj;simp only[List.getElem_range',Pb];have:=far (j - i - 1) (f+i) ⋯ ⋯;rw[show f+i+(j - i - 1)+1=f+j by lia]at this;exact this
noncomputable def Rises(rss:List (List Nat)):Nat->List Nat->Prop
 | _,[]=>True
 | f,a::r=>Rise rss f a/\Rises rss (f+a) r
theorem Rises.snoc:∀{ls:List Nat}{f a:Nat},Rises rss f (ls++[a])↔Rises rss f ls/\Rise rss (f+ls.sum) a
 | [],f,a=>by simp[Rises]
 | b::r,f,a=>by
  rw[LV];show(Rise rss f b/\Rises rss (f+b) (r++[a]))↔(Rise rss f b/\Rises rss (f+b) r)/\Rise rss (f+(b::r).sum) a
  rw[Rises.snoc,IB,<-Lo,and_assoc]
theorem nG(rss:List (List Nat)):∀m,Rises rss 0 (bo rss m)
 | 0=>GL
 | m+1=>by
  have ih:=nG rss m;rw[bo];split
  ·rename_i h
   obtain⟨m',rfl⟩:∃m',m=m'+1:=⟨m - 1,by lia⟩
   obtain⟨ys,a,e⟩:=o9 (jP rss m');have hs:=gU rss (m'+1);rw[e]at ih hs;rw[e,jO];rw[Rises.snoc]at ih ⊢;refine⟨ih.1,λi h1 h2=>?_⟩;simp at hs;by_cases g:i+1<0+ys.sum+a
   ·exact ih.2 i h1 g
   ·rw[show i+1=m'+1 by lia];exact h.2
  ·rw[Rises.snoc]
   exact⟨ih,λi h1 h2=>by lia⟩
theorem Rises.part:∀{ls:List Nat}{f:Nat},Rises rss f ls->Part rss f ls (Je f ls.sum)
 | [],_,_=>rfl
 | a::r,f,⟨h1,h2⟩=>⟨Je f a,Je (f+a) r.sum,by rw[IB,<-MT],by simp,h1.seg,Rises.part h2⟩
theorem rN(rss:List (List Nat))(n:Nat):Part rss 0 (bo rss n) (GH n):=by
 have:=(nG rss n).part;rw[gU,<-MU]at this;exact this
theorem xu(rss:List (List Nat))(n:Nat):RnS rss n (fS (bo rss n)) (GH n):=by
 have:=RnS.all _ (bo rss n) (GF _) (rN rss n);rw[gU]at this;exact this
end
inductive Mgd (r1 r2:List (List Nat)):Nat->Nat->List (Nat×Nat)->Prop where
 | nil:Mgd r1 r2 0 0 []
 | one {i j:Nat}{ws:List (Nat×Nat)}(h:Mgd r1 r2 i j ws) (hi:i<r1.length) (c:j=r2.length\/lxt (r2.getD j []) (r1.getD i [])=false):Mgd r1 r2 (i+1) j (ws++[(0,i)])
 | two {i j:Nat}{ws:List (Nat×Nat)}(h:Mgd r1 r2 i j ws) (hj:j<r2.length) (c:i=r1.length\/lxt (r2.getD j []) (r1.getD i [])=true):Mgd r1 r2 i (j+1) (ws++[(1,j)])
noncomputable def jq(xs ys:List Nat)(w:Nat×Nat):Nat:=if w.1=0 then xs.getD w.2 0 else ys.getD w.2 0
theorem lU{xs:List Nat}(h:xs.Pairwise (Rk rss 0)){k:Nat}(hik:i<k)(hk:k<xs.length):Rk rss 0 (xs.getD i 0) (xs.getD k 0):=by
 rw[Hq]at h;have:=h i k ⋯ hk hik;rw[GB,GB,Gz (by lia:i<xs.length),Gz hk];exact this
theorem gY{xs:List Nat}(h:i<xs.length):(xs.map λx=>rss.getD x []).getD i []=rss.getD (xs.getD i 0) []:=by
 rw[GB,GE,GB (l:=xs),Gz h];rfl
theorem nH{xs:List Nat}(h:i<xs.length):xs.getD i 0∈xs:=by
 rw[GB,Gz h];exact GU h
theorem lh{xs:List Nat}(h:i<xs.length):xs.take (i+1)=xs.take i++[xs.getD i 0]:=by
 rw[GS,GB,Gz h];rfl
theorem Mgd.inv{xs ys:List Nat}{l:Nat}{ws:List (Nat×Nat)}(hx:Seg rss f m xs)(hy:Seg rss m l ys)
  (h:Mgd (xs.map λx=>rss.getD x []) (ys.map λx=>rss.getD x []) i j ws):i<=xs.length/\j<=ys.length/\(ws.map (jq xs ys)).Perm (xs.take i++ys.take j)/\(ws.map (jq xs ys)).Pairwise (Rk rss 0)/\
   ∀z∈ws.map (jq xs ys),(∀k,i<=k->k<xs.length->Rk rss 0 z (xs.getD k 0))/\(∀k,j<=k->k<ys.length->Rk rss 0 z (ys.getD k 0)):=by
 induction h with
 | nil=>exact⟨GR _,GR _,by simp,Kk,λz hz=>nomatch hz⟩
 | @one i j ws h hi c ih=>
  obtain⟨h1,h2,h3,h4,h5⟩:=ih;rw[GA]at hi c;have ez:(ws++[(0,i)]).map (jq xs ys)=ws.map (jq xs ys)++[xs.getD i 0]:=by rw[GM];rfl
  have ryj:j<ys.length->Rk rss 0 (xs.getD i 0) (ys.getD j 0):=λhj=>by
   rcases c with c|c
   ·lia
   ·rw[gY hj,gY hi]at c
    unfold Rk;rw[Ht,Ht];rcases o3 (rss.getD (xs.getD i 0) []) (rss.getD (ys.getD j 0) [])with q|q|q
    ·exact .inl q
    ·exact .inr ⟨q,by have a:=hx.mem (nH hi);have b:=hy.mem (nH hj);lia⟩
    ·rw[q]at c;cases c
  rw[ez];refine⟨hi,h2,?_,?_,λz hz=>?_⟩
  ·rw[lh hi]
   refine(h3.append_right [xs.getD i 0]).trans ?_;rw[HY,HY];exact ME _ List.perm_append_comm
  ·rw[II]
   exact⟨h4,Iv _ _,λa ha b hb=>by rw[G1.mp hb];exact(h5 a ha).1 i (GF _) hi⟩
  ·rcases G9.mp hz with hz|hz
   ·exact⟨λk a b=>(h5 z hz).1 k ⋯ b,(h5 z hz).2⟩
   ·rw[G1.mp hz]
    refine⟨λk a b=>lU hx.sort ⋯ b,λk a b=>?_⟩;have:=ryj ⋯;rcases Iz j k with g|g
    ·exact this.tr0 (lU hy.sort g b)
    ·rw[show k=j by lia];exact this
 | @two i j ws h hj c ih=>
  obtain⟨h1,h2,h3,h4,h5⟩:=ih;rw[GA]at hj c;have ez:(ws++[(1,j)]).map (jq xs ys)=ws.map (jq xs ys)++[ys.getD j 0]:=by rw[GM];rfl
  have rxi:i<xs.length->Rk rss 0 (ys.getD j 0) (xs.getD i 0):=λhi=>by
   rcases c with c|c
   ·lia
   ·rw[gY hj,gY hi]at c
    exact .inl (by rw[Ht,Ht];exact c)
  rw[ez];refine⟨h1,hj,?_,?_,λz hz=>?_⟩
  ·rw[lh hj,<-HY]
   exact h3.append_right _
  ·rw[II]
   exact⟨h4,Iv _ _,λa ha b hb=>by rw[G1.mp hb];exact(h5 a ha).2 j (GF _) hj⟩
  ·rcases G9.mp hz with hz|hz
   ·exact⟨(h5 z hz).1,λk a b=>(h5 z hz).2 k ⋯ b⟩
   ·rw[G1.mp hz]
    refine⟨λk a b=>?_,λk a b=>lU hy.sort ⋯ b⟩;have:=rxi ⋯;rcases Iz i k with g|g
    ·exact this.tr0 (lU hx.sort g b)
    ·rw[show k=i by lia];exact this
theorem Mgd.seg{xs ys:List Nat}{l:Nat}{ws:List (Nat×Nat)}(hx:Seg rss f m xs)(hy:Seg rss m l ys)(h1:f<=m)(h2:m<=l)
  (h:Mgd (xs.map λx=>rss.getD x []) (ys.map λx=>rss.getD x []) xs.length ys.length ws):Seg rss f l (ws.map (jq xs ys)):=by
 obtain⟨_,_,p,s,_⟩:=h.inv hx hy;rw[NJ,NJ]at p;exact⟨p.trans (hx.both hy h1 h2),s⟩
section
variable{X:Cx}{pos:Pos}
end
section
variable{X:Cx}{tg a b c:Expr}{t:TA}{p pos:Pos}
end
end L2
namespace HT
open PySem PyProof.Rows PySem.W L2
section
variable{α β:Type}
end
end HT
namespace L2
open PySem PySem.Spec PyProof.Rows
section
variable{X:Cx}{pins:List (Addr×Obj)}{σ:St}{H:Hp}{s:Shared}{h':Heap}
end
noncomputable abbrev TEX:=St->Hp->VK->(Addr->Option Addr->Hp->Prop)->Prop
section
variable{X:Cx}{st:Stmt}{sts s1 s2:List Stmt}{T1 T2:TX}{c e:Expr}{es:List Expr}{tA:TT}{te:TE}{t:TA}{pos p:Pos}{x:Str}{i:Nat}
variable{tx:TEX}
end
section
variable{X:Cx}{pins:List (Addr×Obj)}{σ:St}{H:Hp}{s:Shared}{h':Heap}
end
section
variable{P:Program}{w:World}{K:GC}{mg:Str->Option Value}{base:Heap}
end
end L2
namespace L2
open PySem PySem.Spec PyProof.Rows PySem.W
section
variable{prog:Program}{w:World}{A:Around}{E:Value->Shared->Prop}{h:Heap}{g:Array GenState}{d:Drawn}{t:Nat}{os:OsState}{K:Frag}{a C:Addr}{o:Obj}{vs:Array Value}
end
section
variable{X:Cx}
end
section
variable{X:Cx}{e:Expr}{es:List Expr}{t:TA}{np cpos pos p:Pos}{x:Str}{C:Addr}
end
section
variable{X:Cx}{pins:List (Addr×Obj)}{σ:St}{H:Hp}{s:Shared}
end
section
variable{X:Cx}{body suite:List Stmt}{b0:Stmt}{tb:TX}{ts:TS}{n x:Str}{i:Nat}{C:Addr}{np hpos pos:Pos}
end
end L2
namespace L2
open PySem PySem.Spec PyProof.Rows
section
variable{X:Cx}{v:Expr}{te:TE}{a b:Str}{p1 p2 p3 pos:Pos}{j1 j3:Nat}
end
section
variable{D:Ends}{Ex:XW}{σ:St}{H:Hp}{Q:VK}{K:GC}{i:Nat}{C:Addr}
end
section
variable{X:Cx}
end
section
variable{H H1:Hp}{x:V}{n:Nat}
end
theorem uF:QOp X (Qf .Add) (λx y H Q=>∃i j,x=.str i/\y=.str j/\i.length+j.length<=P4/\Q (.str (i++j)) H):=⟨qY⟩
end L2
namespace HT
open PySem PyProof.Rows PySem.W L2
noncomputable def lt2(k m:List Int×List Int):Bool:=if k.1=m.1 then aY k.2 m.2 else aY k.1 m.1
theorem jT:∀(a b:List Int),aY a b=false->aY b a=false->a=b
 | [],[],_,_=>rfl
 | [],y::b,h,_=>by cases h
 | x::a,[],_,h=>by cases h
 | x::a,y::b,h1,h2=>by
  rw[bb]at h1 h2;by_cases g:x=y
  ·subst g
   rw[if_pos rfl]at h1 h2;rw[jT a b h1 h2]
  ·rw[if_neg g]at h1
   rw[if_neg (Hx g)]at h2;have:=of_decide_eq_false h1;have:=of_decide_eq_false h2;lia
theorem xw(a b:List Int×List Int)(h:lt2 a b=true):lt2 b a=false:=by
 unfold lt2 at *;by_cases g:a.1=b.1
 ·rw[if_pos g]at h
  rw[if_pos g.symm];exact dM _ _ h
 ·rw[if_neg g]at h
  rw[if_neg (Hx g)];exact dM _ _ h
theorem z9(a b c:List Int×List Int)(h1:lt2 a b=false)(h2:lt2 b c=false):lt2 a c=false:=by
 obtain⟨a1,a2⟩:=a;obtain⟨b1,b2⟩:=b;obtain⟨c1,c2⟩:=c;unfold lt2 at *;dsimp only at *;by_cases g:a1=b1
 ·subst g
  rw[if_pos rfl]at h1;by_cases g':a1=c1
  ·rw[if_pos g']at h2 ⊢
   exact jS _ _ _ h1 h2
  ·rw[if_neg g']at h2 ⊢
   exact h2
 ·rw[if_neg g]at h1
  by_cases g':b1=c1
  ·subst g'
   rw[if_neg g];exact h1
  ·rw[if_neg g']at h2
   have h3:=jS _ _ _ h1 h2;by_cases g2:a1=c1
   ·subst g2
    exact absurd (jT _ _ h1 h2) g
   ·rw[if_neg g2];exact h3
theorem Cr(ks:List (List Int×List Int)):Lt (λi j=>lt2 (ks.getD i ([],[])) (ks.getD j ([],[]))):=⟨λi j h=>xw _ _ h,λi j k h1 h2=>z9 _ _ _ h1 h2⟩
theorem lV(prog:Program)(w:World):∀{xs:List Value}{ns:List Int},P9 xs ns->ItemsAre (intKind prog w) ns xs
 | _,_,.nil=>.nil
 | _,_,.cons n t r=>.cons (by simp[intKind,Mp]) (lV prog w r)
section
variable{prog:Program}{w:World}{A:Around}{E:Value->Shared->Prop}{s:Shared}
theorem Aa{x y q':Addr}{its its2 jts jts2:Array Value}{us2:List Value}{k m:List Int×List Int}{Q:Bool->Shared->Prop}(hu:A.units<cLine)(hx:IsTup s.heap x its)(hy:IsTup s.heap y its2)(ex:its.toList=.ref q::us)(ey:its2.toList=.ref q'::us2)(hi:P9 us k.2)(hj:P9 us2 m.2)
  (hq:IsTup s.heap q jts) (hq':IsTup s.heap q' jts2) (iq:P9 jts.toList k.1) (iq':P9 jts2.toList m.1) (h:Q (lt2 k m) s) :
  wpAny (model prog w) A (keyLt' (tuples' false) (.ref x) (.ref y)) Q E s:=by
 obtain⟨o,ho,hc,n,hd⟩:=id hx;obtain⟨o2,ho2,hc2,n2,hd2⟩:=id hy;refine kat_lt ho hd ho2 hd2 ?_;rw[ex,ey,IC];obtain⟨ov,hov,hcv,nv,hdv⟩:=id hq;obtain⟨ov2,hov2,hcv2,nv2,hdv2⟩:=id hq';refine kat_cons (wpAny_eqBool_tuple (knd:=intKind prog w) hu ⟨ov,jts,nv,hov,hcv,hdv,lV prog w iq⟩ ⟨ov2,jts2,nv2,hov2,hcv2,hdv2,lV prog w iq'⟩ ?_);unfold lt2 at h;by_cases g:k.1=m.1
 ·rw[if_pos g]at h
  rw[decide_eq_true g];refine kat_yes (lO hi hj 1 false ?_ h);have e1:its.size=its.toList.length:=rfl;have e2:its2.size=its2.toList.length:=rfl;rw[e1,e2,ex,ey,Hh,Hh,<-hi.length,<-hj.length];simp
 ·rw[if_neg g]at h
  rw[decide_eq_false g];refine kat_no ?_;exact kat_one _ _ (q8 hq hq' iq iq' hu h)
theorem xx{fs:List Value}{Q:SortKind->Shared->Prop}(h2:2<=vs.length)(hl:vs.length=fs.length)(t:KatTups s.heap vs fs)(hf:∀f∈fs,∃q its,f=.ref q/\IsTup s.heap q its)
  (h:Q (tuples' false) s):wpAny (model prog w) A (keyKind' vs.toArray) Q E s:=by
 refine kat_kind (T:=Im "tuple") t ⋯ (λv hv=>?_) rfl h;obtain⟨q,its,rfl,o,ho,hc,_⟩:=hf v hv;rw[<-hc];exact(Looks.ld ho).andThen .now
theorem qA:∀{vs:List Value}{fs:List Value},vs.length=fs.length->(∀(i:Nat) v f,vs[i]? = some v->fs[i]? = some f->∃a its us,v=.ref a/\IsTup s.heap a its/\its.toList=f::us)->KatTups s.heap vs fs
 | [],[],_,_=>.nil
 | v::vs,f::fs,hl,h=>by
  have k1:=qA (vs:=vs) (fs:=fs) (by simpa using hl) (λi v r e1 e2=>h (i+1) v r (by simpa using e1) (by simpa using e2));obtain⟨a,its,us,rfl,⟨o,ho,hc,n,hd⟩,hi⟩:=h 0 v f rfl rfl;obtain⟨its'⟩:=its;simp only at hi;subst hi;exact KatTups.cons (f:=f) ho hc hd (by simp) k1
end
end HT
namespace L2
open PySem PySem.Spec PyProof.Rows
section
variable{X:Cx}
end
section
variable{X:Cx}{o e value:Expr}{es:List Expr}{f m x:Str}{pos pos' tpos apos p:Pos}{ta tv:TE}{t:TA}{C g:Addr}{CX:CXT}{k:Nat}{fd:FuncData}{ps:List Str}{sp:Sp}{E:XK}
end
section
variable{K:GC}{σ:St}{H:Hp}{Q:VK}{D:Ends}{ta tv:TE}{t:TA}{f m:Str}{C:Addr}{sp:Sp}{E:XK}{a dx:Addr}{fs:List (Str×V)}{v:V}
end
def uG(x:V)(d:PyData):Prop:=(x=.non/\d=.none)\/(∃b,x=.bl b/\d=.bool b)\/(∃i:Int,x=.int i/\d=.int i)\/(∃y,x=.str y/\d=.str y/\LW y=true)
noncomputable def DatE:Nat->Hp->V->PyData->Prop
 | 0,_,x,d=>uG x d
 | n+1,H,x,d=>uG x d\/(∃a xs ds,x=.ref a/\d=.list ds/\H a=some (.lst xs)/\xs.length=ds.length/\∀(i:Nat) u e,xs[i]? = some u->ds[i]? = some e->DatE n H u e)\/
  (∃a xs ds,x=.ref a/\d=.tuple ds/\H a=some (.tup xs)/\xs.length=ds.length/\∀(i:Nat) u e,xs[i]? = some u->ds[i]? = some e->DatE n H u e)
theorem DatE.leaf{H:Hp}{x:V}{d:PyData}(h:uG x d):∀{n:Nat},DatE n H x d
 | 0=>h
 | n+1=>.inl h
theorem DatE.int{H:Hp}{n:Nat}(i:Int):DatE n H (.int i) (.int i):=DatE.leaf (.inr (.inr (.inl ⟨i,rfl,rfl⟩)))
theorem DatE.str{H:Hp}{n:Nat}{y:Str}(h:LW y=true):DatE n H (.str y) (.str y):=DatE.leaf (.inr (.inr (.inr ⟨y,rfl,rfl,h⟩)))
theorem DatE.lst{H:Hp}{n:Nat}{a:Addr}{xs:List V}{ds:List PyData}(e:H a=some (.lst xs))(hl:xs.length=ds.length)(h:∀(i:Nat) u e,xs[i]? = some u->ds[i]? = some e->DatE n H u e):DatE (n+1) H (.ref a) (.list ds):=
 .inr (.inl ⟨a,xs,ds,rfl,rfl,e,hl,h⟩)
theorem DatE.tup{H:Hp}{n:Nat}{a:Addr}{xs:List V}{ds:List PyData}(e:H a=some (.tup xs))(hl:xs.length=ds.length)(h:∀(i:Nat) u e,xs[i]? = some u->ds[i]? = some e->DatE n H u e):DatE (n+1) H (.ref a) (.tuple ds):=
 .inr (.inr ⟨a,xs,ds,rfl,rfl,e,hl,h⟩)
theorem DatE.facts{H:Hp}:∀{n:Nat}{x:V}{d:PyData},DatE n H x d->d.canLay0=true/\d.depth<=n
 | n,x,d,h=>by
  have hint:uG x d->d.canLay0=true/\d.depth<=n:=by
   rintro(⟨rfl,rfl⟩|⟨b,rfl,rfl⟩|⟨i,rfl,rfl⟩|⟨y,rfl,rfl,hy⟩)
   ·exact⟨rfl,GR _⟩
   ·exact⟨rfl,GR _⟩
   ·exact⟨rfl,GR _⟩
   ·exact⟨hy,GR _⟩
  match n,h with
  | 0,h=>exact hint h
  | n+1,h=>
   rcases h with h|⟨a,xs,ds,rfl,rfl,ha,hl,hi⟩|⟨a,xs,ds,rfl,rfl,ha,hl,hi⟩
   ·exact hint h
   ·have hd:∀d∈ds,d.canLay0=true/\d.depth<=n:=λd hd=>by
     obtain⟨i,e⟩:=JO hd;have hlt:=aI e;exact DatE.facts (hi i (xs[i]'⋯) d (Gz _) e)
    exact⟨t6 (P:=N6) (PA:=Nt) rfl (λ_ _=>rfl) λd h=>(hd d h).1,LX (gc λd h=>(hd d h).2)⟩
   ·have hd:∀d∈ds,d.canLay0=true/\d.depth<=n:=λd hd=>by
     obtain⟨i,e⟩:=JO hd;have hlt:=aI e;exact DatE.facts (hi i (xs[i]'⋯) d (Gz _) e)
    exact⟨t6 (P:=N6) (PA:=Nt) rfl (λ_ _=>rfl) λd h=>(hd d h).1,LX (gc λd h=>(hd d h).2)⟩
section
variable{X:Cx}{pins:List (Addr×Obj)}{σ:St}{H:Hp}{s:Shared}
theorem DatE.reads(I:Inv X pins σ H s):∀{n:Nat}{x:V}{d:PyData}{v:Value},DatE n H x d->RelV x v->∃as,Reads s.heap v d as
 | n,x,d,v,h,r=>by
  have hint:uG x d->∃as,Reads s.heap v d as:=by
   rintro(⟨rfl,rfl⟩|⟨b,rfl,rfl⟩|⟨i,rfl,rfl⟩|⟨y,rfl,rfl,_⟩)
   ·cases r;exact⟨_,.none⟩
   ·cases r;exact⟨_,.bool b⟩
   ·obtain⟨t,rfl⟩:=r;exact⟨_,.int i t⟩
   ·obtain⟨t,rfl⟩:=r;exact⟨_,.str y t⟩
  match n,h with
  | 0,h=>exact hint h
  | n+1,h=>
   rcases h with h|⟨a,xs,ds,rfl,rfl,ha,hl,hi⟩|⟨a,xs,ds,rfl,rfl,ha,hl,hi⟩
   ·exact hint h
   ·cases r
    obtain⟨its,m,rv,ho,hz⟩:=I.lst ha;obtain⟨as,h1⟩:=gf (R:=DatE n H) (λx v d h r=>DatE.reads I h r) rv hl hi;exact⟨_,.list ho rfl rfl (by simpa using h1)⟩
   ·cases r
    obtain⟨its,rv,⟨ob,ho,hc,m,hd⟩,hz⟩:=I.tuple (PQ ha);obtain⟨as,h1⟩:=gf (R:=DatE n H) (λx v d h r=>DatE.reads I h r) rv hl hi;exact⟨_,.tuple ho hc hd (by simpa using h1)⟩
def FE:R2:=λx y H Q=>∃(n:Nat) (d e:PyData),DatE n H x d/\DatE n H y e/\n<=32/\Q (.bl (!PyData.eqv d e)) H
theorem xy(hu:X.A.units+64<cLine):QOp X (Qc .NotEq) FE:=by
 refine⟨λpins s σ H x y v u Q I rx ry h=>?_⟩;obtain⟨n,d,e,hd,he,hn,q⟩:=h;obtain⟨as,r1⟩:=hd.reads I rx;obtain⟨bs,r2⟩:=he.reads I ry;have f1:=hd.facts;have f2:=he.facts;exact OX r1 r2 f1.1 f2.1 (by have:=Nat.min_le_left d.depth e.depth;have:=f1.2;lia) X.prog X.w X.xe _ ⟨.bl _,H,I,rfl,q⟩
end
section
variable{H:Hp}{Q:VK}{x y:V}{n:Nat}{d e:PyData}
theorem gZ(h1:DatE n H x d)(h2:DatE n H y d)(hn:n<=32)(h:Q (.bl false) H):FE x y H Q:=⟨n,d,d,h1,h2,hn,by rw[Pj d h1.facts.1];exact h⟩
end
end L2
namespace HT
open PySem PyProof.Rows PySem.W L2
section
variable{prog:Program}{w:World}{A:Around}{E:Value->Shared->Prop}{s:Shared}
end
end HT
namespace L2
open PySem PySem.Spec PyProof.Rows PySem.W
section
variable{X:Cx}{e:Expr}{t:TA}{p pos kpos cp:Pos}{k:Nat}{j:Nat}
theorem Cs{s:Shared}{Q:List Value->Shared->Prop}{a:Expr}(h:wpAny (model X.prog X.w) X.A (eval a X.env) (λv s'=>Q [v] s') E s):
  wpAny (model X.prog X.w) X.A (evalAll ((backToKw pos (keywordEach [⟨some x,a,kpos⟩] X.env)).map (·.2))) Q E s:=by
 show wpAny _ _ (evalAll ((do let v <-eval a X.env;standAt pos;pure v)::[])) _ _ s
 exact wpAny_evalAll_cons (P2 (P8 h (λv s' hq=>P2 (Qr (P3 (wpAny_evalAll_nil hq)))) λ_ _ z=>z))
end
end L2
namespace L2
open PySem PySem.Spec PyProof.Rows
section
variable{qs:List (Nat×Nat)}{b:Nat}{st:HW}
end
section
variable{qs:List (Nat×Nat)}{b:Nat}{st:HW}
end
section
variable(pa:Addr)(hv v:V)(ma ea:Addr)(n m:Int)
end
section
variable{C:Addr}{H H1:Hp}{w pa ma ea:Addr}{vs:List V}{hv:V}{st:HW}
end
end L2
namespace HT
open PySem PyProof.Rows PySem.W L2
section
open PySem.SeqAt
open PySem.AutoSeq1 (wpAny_loadPart')
open PySem.MeetsSeq PySem.MeetsSeq2 PySem.MeetsSeq3
end
section
variable{prog:Program}{w:World}{A:Around}{E:Value->Shared->Prop}{s:Shared}
end
end HT
namespace L2
open PySem PySem.Spec PyProof.Rows
section
variable{X:Cx}
end
section
variable{prog:Program}{w:World}{A:Around}{R:Result->Shared->Prop}{s:Shared}{scope:Scope}
end
section
variable{X:Cx}{N tgs frs:List Str}{ix:List Nat}{scope:Scope}{cl:List (Str×Addr)}
end
section
variable{K:GC}{g g2:TG}{wi2:TI}{te:TE}{σ0:St}{H:Hp}{R:List V->Hp->Prop}
end
inductive RMv where
 | take (p:Nat)
 | move (p q:Nat)
 | lay (p:Nat)
section
variable{H H1:Hp}{v y:V}{d:PyData}
variable{vs us rs:List V}{ds:List PyData}
end
section
variable(ta:Addr)(hv v:V)(pa:Addr)(n m:Int)
end
section
variable{C:Addr}{H H1:Hp}{w ta pa:Addr}{ps:List Addr}{us:List V}{hv:V}{ms:List RMv}{d:Nat}
end
section
variable{X:Cx}{e:Expr}{es:List Expr}{t:TA}{pos p:Pos}{x:Str}{C f:Addr}
end
end L2
namespace HT
open PySem PySem.Spec PyProof.Rows PySem.W L2
section
variable{prog:Program}{w:World}{A:Around}{E:Value->Shared->Prop}{s:Shared}
end
end HT
namespace L2
open PySem PySem.Spec PyProof.Rows
section
variable{X:Cx}
end
noncomputable def Ge(s:List V×V):List V:=(s.1++[s.2]).filter (λv=>decide (v≠V.non))
noncomputable def turn(r:List Nat):List Nat:=r.take 1++(r.drop 1).reverse
section
variable{H H1:Hp}{v y z:V}{d e:Option (List Nat×Nat)}
variable{vs us rs:List V}
end
section
variable{C:Addr}{H H1:Hp}{w ta pa:Addr}{ps:List Addr}{us:List V}{hv:V}{ms:List RMv}{d:Nat}
end
section
variable{H H1:Hp}{vs us:List V}{ds:List (List Nat×Nat)}{v:V}{d:List Nat×Nat}
end
section
variable{X:Cx}{e:Expr}{te:TE}{pos p1 p2 p3 p4 p5:Pos}{j j':Nat}
end
end L2
namespace HT
open PySem PyProof.Rows PySem.W L2
section
variable{prog:Program}{w:World}{A:Around}{E:Value->Shared->Prop}
def FF(f:Nat->Int)(d v:Value)(n:Nat):Prop:=n=0/\v=d\/∃(i:Nat) (t:Tok),i<n/\v=.int (f i) t/\∀m,m<n->f m<=f i
theorem uH{I:Addr}{wr:List Addr}{P:Nat->Value->Prop}{St:Nat->Heap->Prop}{d:Value}{R:Result->Shared->Prop}(f:Nat->Int)(W:Walks prog w A.in1 I fp wr n P St)(hf:∀i v,P i v->∃t,v=.int (f i) t)(hSf:S∉fp):
  ∀(k j:Nat) (s:Shared) (vb:List Value) (c:Nat),n - j=k->j<=n->St j s.heap->s.heap.get? S=some (seqObj "list" vb.toArray c)->
   (vb=[]/\j=0\/∃(i:Nat) (t:Tok),i<j/\vb=[.int (f i) t,.int (f i) t]/\∀m,m<j->f m<=f i)->
   (∀v h' tk,FF f d v n->(∀b o,b∉wr->b≠S->s.heap.get? b=some o->h'.get? b=some o)->R (.ok (.ret v)) { s with heap:=h',toks:=tk })->
   codeAny (model prog w) A (.builtin "max.loop" ⟨[.ref I,.none,.ref S],[(Hi "default",d)]⟩) R s:=by
 have hSw:S∉wr:=λz=>hSf (W.sub _ z)
 have nm:(toString "max"++toString ".loop" : String) = "max.loop":=by decide
 intro k
 induction k with
 | zero=>
  intro j s vb c hk hj hst hS hb hR;have hin:j=n:=by lia
  refine Qd My ?_;rw[HS IA _];show wpAny _ A.in1 (seqItems? (.ref S) >>= _) _ _ s
  refine P2 (wpAny_seqItems hS rfl ?_);show wpAny _ A.in1 (tryCatch (pyNext (.ref I)) _ >>= _) _ _ s
  refine P2 (wpAny_tryCatch (W.done s _ _ (hin▸hst) λh' tk kp=>?_));have hS1:=kp S _ hSw hS;rcases hb with⟨rfl,h0⟩|⟨i,t,hi,rfl,hm⟩
  ·refine P2 (wpAny_rule (P3 ?_))
   exact hR d _ tk (.inl ⟨by lia,rfl⟩) λb o q1 q2 e=>kp b o q1 e
  ·show wpAny _ A.in1 (updateSeq S (λ_=>#[]) >>= _) _ _ _
   refine P2 ?_;refine Qy hS1 rfl (P2 (QX (P3 ?_)));exact hR _ _ tk (.inr ⟨i,t,by lia,rfl,λm q=>hm m ⋯⟩) λb o q1 q2 e=>(Il _ _ (Hx q2)).trans (kp b o q1 e)
 | succ k ih=>
  intro j s vb c hk hj hst hS hb hR;have hlt:j<n:=by lia
  refine Qd My ?_;rw[HS IA _];show wpAny _ A.in1 (seqItems? (.ref S) >>= _) _ _ s
  refine P2 (wpAny_seqItems hS rfl ?_);show wpAny _ A.in1 (tryCatch (pyNext (.ref I)) _ >>= _) _ _ s
  refine P2 (wpAny_tryCatch (W.item j s _ _ hlt hst λv h' tk hP st1 kp=>?_));obtain⟨tv,rfl⟩:=hf j v hP;have hS1:=kp S _ hSw hS;have upd1:∀(g:Array Value->Array Value) b (o:Obj),b≠S->h'.get? b=some o->(h'.update S (Hd g)).get? b=some o:=λg b o q e=>(Il _ _ (Hx q)).trans e
  rcases hb with⟨rfl,h0⟩|⟨i,t,hi,rfl,hm⟩
  ·show wpAny _ A.in1 (updateSeq S (λ_=>#[.int (f j) tv,.int (f j) tv]) >>= _) _ _ _
   refine P2 ?_;refine Qy hS1 rfl ?_;rw[nm];obtain⟨c1,hc1⟩:∃c1,(h'.update S (Hd λ_=>#[.int (f j) tv,.int (f j) tv])).get? S=some (seqObj "list" [JK (f j) tv,JK (f j) tv].toArray c1):=⟨_,QH hS1 λ_=>#[.int (f j) tv,.int (f j) tv]⟩
   refine P3 ⟨Qe IA _,ih (j+1) _ _ c1 ⋯ hlt (W.frame _ _ _ st1 λb q o e=>upd1 _ b o (λz=>hSf (z▸q)) e) hc1 (.inr ⟨j,tv,by lia,rfl,λm q=>?_⟩) λv2 h2 tk2 q2 k2=>?_⟩
   ·have:m=j:=by lia
    rw[this];exact Pd _
   ·exact hR v2 h2 tk2 q2 λb o q3 q4 e=>k2 b o q3 q4 (upd1 _ b o q4 (kp b o q3 e))
  ·show wpAny _ A.in1 (tryCatch (Qo [.int (f j) tv,.int (f j) tv] (richCompare .Gt (.int (f j) tv) (.int (f i) t) >>= _)) _ >>= _) _ _ _
   refine P2 (wpAny_tryCatch (P7 (P2 (Oc (prog:=prog) (w:=w) (A:=A.in1) (P:=λi v=>∃t,v=.int (f i) t) f (λi v z=>z) j i _ _ _ _ _ ⟨tv,rfl⟩ ⟨t,rfl⟩ ?_))));refine P2 (P7 (QK ?_));refine P2 (QX (P3 ?_));by_cases hg:f j > f i
   ·simp only[hg,decide_true,if_true]
    refine P2 ?_;refine Qy hS1 rfl (P2 (QX ?_));rw[nm];obtain⟨c1,hc1⟩:∃c1,(h'.update S (Hd λ_=>#[.int (f j) tv,.int (f j) tv])).get? S=some (seqObj "list" [JK (f j) tv,JK (f j) tv].toArray c1):=⟨_,QH hS1 λ_=>#[.int (f j) tv,.int (f j) tv]⟩
    refine P3 ⟨Qe IA _,ih (j+1) _ _ c1 ⋯ hlt (W.frame _ _ _ st1 λb q o e=>upd1 _ b o (λz=>hSf (z▸q)) e) hc1 (.inr ⟨j,tv,by lia,rfl,λm q=>?_⟩) λv2 h2 tk2 q2 k2=>?_⟩
    ·by_cases e:m=j
     ·rw[e];exact Pd _
     ·have:=hm m ⋯;lia
    ·exact hR v2 h2 tk2 q2 λb o q3 q4 e=>k2 b o q3 q4 (upd1 _ b o q4 (kp b o q3 e))
   ·simp only[hg,decide_false,Hm,if_false]
    refine P2 (QX ?_);rw[nm];refine P3 ⟨Qe IA _,ih (j+1) _ _ c ⋯ hlt st1 hS1 (.inr ⟨i,t,by lia,rfl,λm q=>?_⟩) λv2 h2 tk2 q2 k2=>?_⟩
    ·by_cases e:m=j
     ·rw[e];lia
     ·exact hm m ⋯
    ·exact hR v2 h2 tk2 q2 λb o q3 q4 e=>k2 b o q3 q4 (kp b o q3 e)
theorem nI (a v:Value):argsOk "max" ⟨[a],[(Hi "default",v)]⟩:=by unfold argsOk;kernel_rfl
theorem Ab{s:Shared}{d:Value}(f:Nat->Int)(hh:A.handled=none)(hl:s.heap.IsList l its.toArray)(hf:∀(i:Nat) (v:Value),its[i]? = some v->∃t,v=.int (f i) t)
  (h:∀v h' tk,FF f d v its.length->(∀b o,s.heap.get? b=some o->h'.get? b=some o)->Q v { s with heap:=h',toks:=tk }) :
  wpAny (model prog w) A (call (.builtin "max") [.ref l] [(Hi "default",d)]) Q E s:=by
 have nm:(toString "max"++toString ".loop" : String) = "max.loop":=by decide
 have hll:l<s.heap.objs.size:=by obtain⟨_,e,_⟩:=id hl;exact GK e
 refine kmk_tree PySem.F.kind_max PySem.F.plain_max PySem.F.entry_max (nI _ _) ?_;show wpAny _ A.in1 (Lg "max" ["key","default"] 0 ⟨[],[(Hi "default",d)]⟩ >>= _) _ _ s
 refine P2 (wpAny_of_eq (show Lg "max" ["key","default"] 0 ⟨[],[(Hi "default",d)]⟩=pure [none,some d]from rfl) ?_);refine P2 (P3 ?_);refine P2 (wpAny_pyIter_list hl ?_);refine P2 (wpAny_newList ?_ (GR _));rw[nm];have hS:(s.heap.push { cls:=.type "list_iterator",data:=.fields #[.ref l,.int 0 0] }).objs.size=s.heap.objs.size+1:=QV ..;have W:=Pk (prog:=prog) (w:=w) (A:=A.in1) hh s.heap.objs.size l (GV hll) its.toArray;have ez:its.toArray.size=its.length:=GO ..;rw[ez]at W;have hll1:((s.heap.push { cls:=.type "list_iterator",data:=.fields #[.ref l,.int 0 0] }).push (seqObj "list" #[] 0)).IsList l its.toArray:=by
  obtain⟨o,e,r⟩:=hl;exact⟨o,GD _ (GD _ e),r⟩
 have hf1:∀(i:Nat) (v:Value),its.toArray[i]? = some v->∃t,v=.int (f i) t:=λi v hv=>hf i v (by simpa using hv)
 refine P3 ⟨Qe IA _,uH f W hf1 (S:=(s.heap.push { cls:=.type "list_iterator",data:=.fields #[.ref l,.int 0 0] }).objs.size) ?_ its.length 0 _ [] 0 ⋯ (GR _) ⟨⟨_,GD _ (GT _ rfl),rfl,rfl⟩,hll1⟩ (GT _ rfl) (.inl ⟨rfl,rfl⟩) λv h' tk q kp=>?_⟩
 ·rw[hS]
  intro z;simp only[GW,Hy,or_false]at z;rcases z with z|z
  ·exact absurd z (LM _)
  ·rw[<-z]at hll;exact absurd hll (Kv (O9 _))
 ·refine h v h' tk q λb o e=>kp b o ?_ ?_ (GD _ (GD _ e))
  ·intro z
   have e2:b=s.heap.objs.size:=by simpa using z
   exact absurd (e2▸GK e) (Hw _)
  ·rw[hS]
   have:=GK e;exact GV (IJ this)
end
end HT
namespace L2
open PySem PySem.Spec PyProof.Rows PySem.W
section
variable{X:Cx}
theorem Ac:QIx X D6:=⟨ym⟩
theorem yD:QC X (.builtin "ord") (λxs H Q=>∃x,xs=[.str x]/\x.length=1/\Q (.int (x.cps.getD 0 0:Nat)) H):=⟨wv⟩
theorem iB:QC X (.builtin "len") (λxs H Q=>∃z,xs=[.str z]/\z.length<=P4/\Q (.int z.length) H):=⟨m4⟩
theorem lW (hg:Gl X x) (hm:X.mg x=some u) (r:RelV v u) (hd:(x == ("__debug__" : Str))=false:=by decide):QE X (.Name x pos) (tC v):=⟨yZ hg hm r hd⟩
def Its(z:Str):It:=⟨λi _=>i<z.cps.size,λi H x H'=>H'=H/\∃c,z.cps[i]? = some c/\x=.str ⟨#[c]⟩,λi _=>i=z.cps.size⟩
theorem qB {w:World}{K:GC}{T:String}(hT:["enumerate","zip","dict_itemiterator","dict_reverseitemiterator","odict_iterator","itertools.zip_longest","itertools.pairwise"].contains T=false) (it:Addr) (z:Str) (t:Tok)
  (W:∀A:Around,A.handled=none->Walks P w A it [it] [it] z.cps.size (SignAt z) (λi h=>h.IsStrIter it T z t i))
  (hself:∀(A:Around) (i:Nat) (s:Shared) (Q:Value->Shared->Prop) (E:Value->Shared->Prop),s.heap.IsStrIter it T z t i->Q (.ref it) s->wpAny (model P w) A (pyIter (.ref it)) Q E s) :
  Turn P w K tg (Its z) [it] it (λi h=>h.IsStrIter it T z t i) where
 mem:=by simp
 obj:=λi h st b hb=>by
  have e:b=it:=by simpa using hb
  subst e;obtain⟨o,e,c,d⟩:=st;exact⟨o,e,λv q=>by rw[d]at q;cases q⟩
 keep:=λi h h' st k=>by
  obtain⟨o,e,r⟩:=st;exact⟨o,k it (by simp) o e,r⟩
 item:=by
  intro X hP hw hK hc i pins s σ H E I hf st hg;subst hP hw hK;obtain⟨f0,f1,f2,f3,f4,f5⟩:=hf it (by simp);refine(W X.A (I.ok.hd hc)).item i s _ _ hg st λv h' tk hv st' kk=>?_
  obtain⟨c,u,hcc,rfl⟩:=hv;have I1:Inv X pins σ H { s with heap:=h',toks:=tk }:=I.turned (λb o hb e=>kk b o (by simpa using hb) e) f0 f1 f3 f4 f5;obtain⟨o,e,cl,d⟩:=id st';exact⟨_,rfl,qU (s:={ s with heap:=h',toks:=tk }) e cl d hT ⟨.str ⟨#[c]⟩,H,I1,⟨u,rfl⟩,⟨rfl,c,hcc,rfl⟩,st',λb hb=>(hf b hb).1⟩⟩
 done:=by
  intro X hP hw hK hc i pins s σ H E I hf st hg;subst hP hw hK;obtain⟨f0,f1,f2,f3,f4,f5⟩:=hf it (by simp);have e:i=z.cps.size:=hg;subst e;exact(W X.A (I.ok.hd hc)).done s _ _ st λh' tk kk=>⟨rfl,I.turned (λb o hb e=>kk b o (by simpa using hb) e) f0 f1 f3 f4 f5⟩
 self:=λA i s Q E st h=>hself A i s Q E st h
def FG(te:TE):TI:=λσ H R=>te σ H λx H1=>∃z,x=.str z/\R (Its z) H1
theorem Ct{te:TE}(hl:QE X e te):QI X tg e (FG te):=by
 refine⟨λpins s σ H R I h=>?_⟩;refine thn (hl.out pins s σ H _ I h) λv s1 ⟨x,H1,I1,r1,q1⟩=>?_
 obtain⟨z,rfl,q⟩:=q1;obtain⟨t,rfl⟩:=r1;have fin:∀(T:String) (o:Obj),(s1.heap.push o).IsStrIter s1.heap.objs.size T z t 0->Turn X.prog X.w X.K tg (Its z) [s1.heap.objs.size] s1.heap.objs.size (λi h=>h.IsStrIter s1.heap.objs.size T z t i)->
   PIE X pins σ tg R (.ref s1.heap.objs.size) { s1 with heap:=s1.heap.push o }:=by
  intro T o h0 hT;refine⟨s1.heap.objs.size,[s1.heap.objs.size],_,_,H1,rfl,I1.kept (t':=s1.toks) λb ob e=>GD _ e,hT,h0,λb hb=>?_,q⟩;have e:b=s1.heap.objs.size:=by simpa using hb
  subst e;exact I1.fpOk (GF _) (I1.hok.fresh (GF _))
 cases ha:z.cps.all (· < 128)
 ·exact wpAny_pyIter_wide ha (fin "str_iterator" _ ⟨_,GT _ rfl,rfl,rfl⟩ (qB (by decide) _ z t (λA hh=>Walks.strWide hh _ z t) λA i s Q E st h=>wpAny_pyIter_striter_wide st h))
 ·exact wpAny_pyIter_ascii ha (fin "str_ascii_iterator" _ ⟨_,GT _ rfl,rfl,rfl⟩ (qB (by decide) _ z t (λA hh=>Walks.strAscii hh _ z t) λA i s Q E st h=>wpAny_pyIter_striter_ascii st h))
theorem EK{H:Hp}{te:TE}{R:It->Hp->Prop}(h:te σ H λx H1=>∃z,x=.str z/\R (Its z) H1):FG te σ H R:=h
variable{o e:Expr}{to:TE}{t:TA}{apos cpos:Pos}
def Cu(K:GC)(d:Int)(t:TA):TE:=λσ H Q=>t σ H λvs H1=>∃(l:Addr) (ns:List Int),vs=[.ref l]/\SqL K H1 l (ns.map PR)/\∀m:Int,(ns=[]/\m=d\/m∈ns/\∀a∈ns,a<=m)->Q (.int m) H1
theorem uI {K:GC}{p kpos cp:Pos}{d:Int}(hc:X.calm=true) (hg:Gl X "max") (hm:X.mg "max" = none) (ha:QA X [e] t) (hn:bQ e=true:=by rfl) (hK:X.K=K:=by rfl):QE X (.Call (.Name "max" p) [e] [⟨some "default",.Constant (.int d) j cp,kpos⟩] pos) (Cu K d t):=by
 subst hK;refine⟨λpins s σ H Q I h=>?_⟩;refine Qu (dh I hg hm (by decide +kernel:bootBuiltins "max" = some (.builtin "max")) ?_);have he1:starEach [e] X.env=[(false,eval e X.env)]:=aC hn;refine callWith_kw (thn (ha.out pos pins s σ H _ I h) λus s1 hu=>?_) (by rw[he1];rfl) (by rw[he1];rfl);obtain⟨vs,H1,I1,r1,l,ns,rfl,hq,q⟩:=hu;obtain⟨u,rfl,ru⟩:=gD r1;cases ru;refine Cs (wpAny_Constant_int ?_);obtain⟨its,rv,pl,hz⟩:=I1.list hq;have hi:=bF rv;have hl:its.length=ns.length:=hi.length;refine HT.Ab (λi=>ns.getD i 0) (I.ok.hd hc) (s:={ s1 with toks:=s1.toks+1 }) pl.isList (λi v hv=>?_) λv h' tk hmx kp=>?_
 ·obtain⟨t1,e1⟩:=HT.pd hi (i:=i) (GQ.mp hv).1
  rw[GB,hv]at e1;exact⟨t1,e1⟩
 ·have I2:Inv X pins σ H1 { s1 with heap:=h',toks:=tk }:=I1.kept (t':=tk) kp
  rcases hmx with⟨h0,rfl⟩|⟨i,t1,hi1,rfl,hm1⟩
  ·exact⟨.int d,H1,I2,⟨_,rfl⟩,q d (.inl ⟨List.eq_nil_of_length_eq_zero ⋯,rfl⟩)⟩
  ·refine⟨.int (ns.getD i 0),H1,I2,⟨t1,rfl⟩,q _ (.inr ⟨?_,λa ha=>?_⟩)⟩
   ·rw[GB,Gz ⋯]
    exact GU _
   ·obtain⟨m,hm2,rfl⟩:=JN.mp ha
    have:=hm1 m ⋯;dsimp only at this;rw[GB (l:=ns) (i:=m),Gz hm2]at this;exact this
theorem EL{K:GC}{d:Int}{H:Hp}{Q:VK}(h:t σ H λvs H1=>∃(l:Addr) (ns:List Int),vs=[.ref l]/\SqL K H1 l (ns.map PR)/\∀m:Int,(ns=[]/\m=d\/m∈ns/\∀a∈ns,a<=m)->Q (.int m) H1):Cu K d t σ H Q:=h
end
section
variable{X:Cx}
end
theorem uJ(z b m:Nat):dg z b (m+1)=((z / b ^ m % b:Nat):Int)::dg z b m:=by
 unfold dg;rw[Mz,Hg,Hv];congr 1;apply HN;intro j hj;have:=Hj.mp hj;show((z / b ^ (m+1 - 1 - (j+1)) % b:Nat):Int)=_
 rw[show m+1 - 1 - (j+1)=m - 1 - j by lia]
theorem uK{b:Nat}(hb:2<=b)(z y:Nat):∀m,HT.aY (dg z b m) (dg y b m)=decide (z % b ^ m<y % b ^ m)
 | 0=>by simp[dg,HT.gE,Nat.mod_one]
 | m+1=>by
  rw[uJ,uJ,HT.bb,uK hb z y m];have hp:0<b ^ m:=Ko ⋯;have ez:z % b ^ (m+1)=z % b ^ m+b ^ m*(z / b ^ m % b):=by rw[JF,Pe]
  have ey:y % b ^ (m+1)=y % b ^ m+b ^ m*(y / b ^ m % b):=by rw[JF,Pe]
  rw[ez,ey];have h1:z % b ^ m<b ^ m:=KS _ hp;have h2:y % b ^ m<b ^ m:=KS _ hp;generalize z / b ^ m % b=q at *;generalize y / b ^ m % b=r at *;generalize z % b ^ m=u at *;generalize y % b ^ m=v at *;generalize b ^ m=p at *;by_cases e:q=r
  ·subst e
   rw[if_pos rfl];congr 1;apply propext;constructor<;>intro h<;>lia
  ·rw[if_neg ⋯]
   congr 1;apply propext;constructor
   ·intro h
    have h3:q+1<=r:=by lia
    have h4:p*(q+1)<=p*r:=KY p h3;rw[NB,NC]at h4;lia
   ·intro h
    apply Ow;intro g;have h3:r+1<=q:=by lia
    have h4:p*(r+1)<=p*q:=KY p h3;rw[NB,NC]at h4;lia
theorem Spelt.lex{ns:List Int}(h:Spelt ns b zs m)(hb:2<=b){x y:Int}{z w:Nat}(hx:ns[i]? = some x)(hy:ns[j]? = some y)(hz:zs[i]? = some z)(hw:zs[j]? = some w):
  HT.aY (dg z b m) (dg w b m)=decide (x<y):=by
 obtain⟨h1,h2⟩:=h.at hb hx hz;obtain⟨h3,h4⟩:=h.at hb hy hw;rw[uK hb,Kx h1,Kx h3];obtain⟨lo,l1,l2⟩:∃lo,lo∈ns/\∀y∈ns,lo<=y:=by
  rcases h with⟨rfl,_,_⟩|⟨lo,hi,q1,_,q3,_⟩
  ·simp at hx
  ·exact⟨lo,q1,λy hy=>(q3 y hy).1⟩
 have e1:=h2 lo l1 l2;have e2:=h4 lo l1 l2;congr 1;apply propext;constructor<;>intro h<;>lia
theorem uL{tb:List (Int×Nat)}(hb:∀z∈tb,1<=z.2/\z.2<=60){z w:Int×Nat}{x y:Int}(hz:tb[i]? = some z)(hw:tb[j]? = some w)(hx:(bj tb)[i]? = some x)(hy:(bj tb)[j]? = some y):
  x<y↔z.1*(w.2:Int)<w.1*(z.2:Int):=by
 unfold bj at hx hy;rw[GE,hz]at hx;rw[GE,hw]at hy;have ex:z.1*((fQ (tb.map (·.2)) / z.2:Nat):Int)=x:=G8 hx;have ey:w.1*((fQ (tb.map (·.2)) / w.2:Nat):Int)=y:=G8 hy;clear hx hy;have hzm:=Hc hz;have hwm:=Hc hw;have d1:z.2∣fQ (tb.map (·.2)):=qb (GX.mpr ⟨z,hzm,rfl⟩);have d2:w.2∣fQ (tb.map (·.2)):=qb (GX.mpr ⟨w,hwm,rfl⟩);have hL:0<fQ (tb.map (·.2)):=qc λb h=>by
  obtain⟨z,hz,rfl⟩:=GX.mp h;exact hb z hz
 have p1:=(hb z hzm).1;have p2:=(hb w hwm).1;generalize fQ (tb.map (·.2))=L at *;obtain⟨k,rfl⟩:=d1;obtain⟨l,hl⟩:=d2;rw[Mc _ ⋯]at ex;rw[hl,Mc _ ⋯]at ey;subst ex ey;have hk:0<k:=Md hL;have hl0:0<l:=Md (hl▸hL);have hc:(z.2:Int)*(k:Int)=(w.2:Int)*(l:Int):=by rw[<-Ja,<-Ja,hl]
 have zp:(0:Int)<z.2:=by lia
 have wp:(0:Int)<w.2:=by lia
 have kp:(0:Int)<k:=by lia
 have hzk:(0:Int)<(z.2:Int)*(k:Int):=MA zp kp
 -- both sides times z.2*w.2
 have e1:z.1*(k:Int)*((z.2:Int)*(w.2:Int))=z.1*(w.2:Int)*((z.2:Int)*(k:Int)):=by
  simp only[Oe,OY,Nu]
 have e2:w.1*(l:Int)*((z.2:Int)*(w.2:Int))=w.1*(z.2:Int)*((z.2:Int)*(k:Int)):=by
  rw[hc];simp only[Oe,OY,Nu]
 constructor
 ·intro h
  have:=IX h (MA zp wp);rw[e1,e2]at this;exact Jb this (KN hzk)
 ·intro h
  have:=IX h hzk;rw[<-e1,<-e2]at this;exact Jb this (KN (MA zp wp))
theorem Cv:∀(a b:List Nat) (m:Nat),(∀c∈a,97<=c)->(∀c∈b,97<=c)->a.length<=m->b.length<=m->
  HT.aY (a.map (λc=>((c:Nat):Int) - 96)++GY (m - a.length) 0) (b.map (λc=>((c:Nat):Int) - 96)++GY (m - b.length) 0)=decide (a<b)
 | [],[],m,_,_,_,_=>by
  have e:∀n,HT.aY (GY n (0:Int)) (GY n 0)=false:=λn=>by
   induction n with
   | zero=>rfl
   | succ n ih=>rw[HM,HT.bb,if_pos rfl];exact ih
  simp only[KI,KL];rw[e];exact(decide_eq_false (List.lt_irrefl _)).symm
 | [],c::b,m,_,hb,_,hm=>by
  obtain⟨k,rfl⟩:∃k,m=k+1:=⟨m - 1,by simp at hm;lia⟩
  have:=hb c (Hl ..);show HT.aY (GY (k+1) 0) (((c:Int) - 96)::_)=_
  rw[HM,HT.bb,if_neg ⋯,decide_eq_true ⋯];exact(decide_eq_true (List.nil_lt_cons c b)).symm
 | c::a,[],m,ha,_,hm,_=>by
  obtain⟨k,rfl⟩:∃k,m=k+1:=⟨m - 1,by simp at hm;lia⟩
  have:=ha c (Hl ..);show HT.aY (((c:Int) - 96)::_) (GY (k+1) 0)=_
  rw[HM,HT.bb,if_neg ⋯,decide_eq_false ⋯];exact(decide_eq_false (λh=>nomatch h)).symm
 | c::a,d::b,m,ha,hb,h1,h2=>by
  obtain⟨k,rfl⟩:∃k,m=k+1:=⟨m - 1,by simp at h1;lia⟩
  have ih:=Cv a b k (λx h=>ha x (Hn _ h)) (λx h=>hb x (Hn _ h)) (by simpa using h1) (by simpa using h2);have e1:k+1 - (c::a).length=k - a.length:=by simp
  have e2:k+1 - (d::b).length=k - b.length:=by simp
  rw[e1,e2,Hg,Hg,LV,LV,HT.bb];by_cases e:c=d
  ·subst e
   rw[if_pos rfl,ih];congr 1;apply propext;rw[ML];constructor
   ·exact λh=>.inr ⟨rfl,h⟩
   ·rintro(h|⟨_,h⟩)
    ·exact absurd h (Hw _)
    ·exact h
  ·rw[if_neg ⋯]
   congr 1;apply propext;rw[ML];constructor
   ·intro h;exact .inl ⋯
   ·rintro(h|⟨h,_⟩)
    ·lia
    ·exact absurd h e
end L2
namespace HT
open PySem PyProof.Rows PySem.W L2
def RawD(h:Heap)(d:Addr)(es:Array Qs)(ep:Nat):Prop:=∃o,h.get? d=some o/\o.ExactDict/\o.data=.dict es ep
theorem RawD.at{g:Heap}{es:Array Qs}(x:RawD h d es ep)(k:∀o,h.get? d=some o->g.get? d=some o):RawD g d es ep:=by
 obtain⟨o,e,r⟩:=x;exact⟨o,k o e,r⟩
noncomputable abbrev dZ (e:Qs):Obj:={ cls:=.type "tuple",data:=.seq #[e.key,e.val] }
noncomputable abbrev cb (own fl ok ov:Value) (d:Addr) (i n ep:Nat):Obj:={ cls:=.type "dict_itemiterator",dict:=none,data:=.fields #[own,fl,.ref d,.int i 0,.int n 0,.int ep 0,ok,ov],slots:=#[] }
def Ri(h:Heap)(it d S:Addr)(i n ep:Nat):Prop:=∃own fl ok ov,h.get? it=some (cb own fl ok ov d i n ep)/\(own=.none/\fl=.bool false\/∃(a:Addr) (b:Bool) (oa:Obj),own=Qp a/\fl=.bool b/\h.get? a=some oa/\a≠it/\a≠S)
theorem Ri.at{g:Heap}(x:Ri h it d S i n ep)(k:∀b o,b≠S->h.get? b=some o->g.get? b=some o)(hI:it≠S):Ri g it d S i n ep:=by
 obtain⟨own,fl,ok,ov,e,c⟩:=x;refine⟨own,fl,ok,ov,k _ _ hI e,?_⟩;rcases c with c|⟨a,b,oa,e1,e2,e3,e4,e5⟩
 ·exact .inl c
 ·exact .inr ⟨a,b,oa,e1,e2,k _ _ e5 e3,e4,e5⟩
section
variable{prog:Program}{w:World}{A:Around}{E:Value->Shared->Prop}{s:Shared}
theorem xz{es:Array Qs}{x:Qs}{Q:Option Value->Shared->Prop}(hi:Ri s.heap it d S i es.size ep)(hS:S<s.heap.objs.size)(hD:RawD s.heap d es ep)(hx:es[i]? = some x)
  (h:∀g,Ri g it d S (i+1) es.size ep->g.get? s.heap.objs.size=some (dZ x)->(∀b o,b≠it->s.heap.get? b=some o->g.get? b=some o)->Q (some (.ref s.heap.objs.size)) { s with heap:=g }) :
  wpAny (model prog w) A (pyNext (.ref it)) Q E s:=by
 obtain⟨h0,gn,dr,tk,os⟩:=s;obtain⟨own,fl,ok,ov,hit,hown⟩:=hi;obtain⟨o,ho,_,hd⟩:=hD;have ty:Of ⟨h0,gn,dr,tk,os⟩ (.ref it) "dict_itemiterator":=⟨_,hit,rfl⟩;have itl:it<h0.objs.size:=GK hit;unfold pyNext;refine P2 (wpAny_attempt (Qk (name:=Hi "__next__") ty Ih (Qg Ih ty J9 ?_ (JV _))));refine P2 (P3 (P2 (P2 ?_)))
 first|refine P2 (Qh ty (P3 ?_))|refine P2 (Qw ty (P3 ?_))
 refine P2 (wpAny_fieldsOf hit rfl ?_);simp only[show JJ "dict_itemiterator" = true by decide,if_true];show wpAny _ _ (if(Hb d == Hf)=true then _ else _) _ _ _
 rw[if_neg (show ¬((Hb d == Hf)=true)from G3)];refine P2 (P3 (P2 (wpAny_dictEntries ho hd ?_)));rw[if_neg (by simp)];refine P2 (P3 (P2 (wpAny_dictEpoch ho hd ?_)));rw[if_neg (by simp)];refine P3 ?_;simp only[show ¬((i:Int)<0)from by lia,if_false,HQ,hx];refine P2 ?_
 first|refine P2 (Qh ty (P3 ?_))|refine P2 (Qw ty (P3 ?_))
 refine P2 (wpAny_isOneOf_itemiter ty ?_);show wpAny _ _ (setField (.ref it) 3 (Qp ((i:Int)+1)) >>= _) _ _ ⟨h0,gn,dr,tk,os⟩
 refine P2 (Qv hit (by simp) λh1 f1 sb1=>?_);have sb1:IU it h0 h1:=sb1;have f1:h1.get? it=some (cb own fl ok ov d (i+1) es.size ep):=by
  have e:((i+1:Nat):Int)=(i:Int)+1:=by lia
  unfold cb;rw[e];simpa [Qp]using f1
 have ty1:Of ⟨h1,gn,dr,tk,os⟩ (.ref it) "dict_itemiterator":=⟨_,f1,rfl⟩;refine P2 (P7 (P2 (wpAny_isOneOf_itemiter ty1 (P2 (wpAny_isOneOf_itemiter ty1 ?_)))));show wpAny _ _ (Ky (.ref it) 6 x.key x.val) _ _ ⟨h1,gn,dr,tk,os⟩
 unfold Ky;refine P2 (wpAny_newTuple ?_);have f2:(h1.push (dZ x)).get? it=some (cb own fl ok ov d (i+1) es.size ep):=GD _ f1;have ez:h1.objs.size=h0.objs.size:=sb1.1;have t2:(h1.push (dZ x)).get? h0.objs.size=some (dZ x):=by rw[<-ez];exact GT _ rfl
 have k2:∀b o,b≠it->h0.get? b=some o->(h1.push (dZ x)).get? b=some o:=λb o nb e=>GD _ (sb1.extBut b o nb e)
 show wpAny _ _ (Kg (.ref it) >>= _) _ _ ⟨h1.push (dZ x),gn,dr,tk,os⟩
 rw[ez];generalize h1.push (dZ x)=h2 at f2 t2 k2;refine P2 ?_;unfold Kg;have nit:h0.objs.size≠it:=Ho itl;rcases hown with⟨rfl,rfl⟩|⟨a,b,oa,rfl,rfl,ha,hai,haS⟩
 ·refine P2 (Qj f2 rfl (x:=.none) rfl (P3 ?_))
  simp only[if_true];refine P2 (Qj f2 rfl (x:=ok) rfl (P2 (Qj f2 rfl (x:=ov) rfl ?_)));refine P2 (Qv f2 (by simp) λh3 f3 sb3=>?_);have sb3:IU it h2 h3:=sb3;have f3:h3.get? it=some (cb .none (.bool false) x.key ov d (i+1) es.size ep):=f3;refine P2 (Qv f3 (by simp) λh4 f4 sb4=>?_);have sb4:IU it h3 h4:=sb4;have f4:h4.get? it=some (cb .none (.bool false) x.key x.val d (i+1) es.size ep):=f4;refine P2 (Qv f4 (by simp) λh5 f5 sb5=>?_);have sb5:IU it h4 h5:=sb5;have f5:h5.get? it=some (cb (Qp h0.objs.size) (.bool false) x.key x.val d (i+1) es.size ep):=f5;refine P2 (Qv f5 (by simp) λh6 f6 sb6=>?_);have sb6:IU it h5 h6:=sb6;have f6:h6.get? it=some (cb (Qp h0.objs.size) (.bool false) x.key x.val d (i+1) es.size ep):=f6;have k6:∀b o,b≠it->h2.get? b=some o->h6.get? b=some o:=λb o nb e=>sb6.extBut b o nb (sb5.extBut b o nb (sb4.extBut b o nb (sb3.extBut b o nb e)))
  refine P2 (QX (P3 (P3 ⟨_,rfl,P3 (h h6 ?_ (k6 _ _ nit t2) λb o nb e=>k6 b o nb (k2 b o nb e))⟩)));exact⟨_,_,_,_,f6,.inr ⟨h0.objs.size,false,_,rfl,rfl,k6 _ _ nit t2,nit,Ho hS⟩⟩
 ·have ha2:h2.get? a=some oa:=k2 a oa hai ha
  refine P2 (Qj f2 rfl (x:=Qp a) rfl ?_);show wpAny _ _ (loadIfAlive ((a:Int).toNat) >>= _) _ _ _
  rw[HQ];refine P2 (kdx_alive ha2 ?_);simp only[Option.isNone_some,Hm,if_false];refine P2 (Qj f2 rfl (x:=.bool b) rfl ?_);have fin:∀h3:Heap,h3.get? it=some (cb (Qp a) (.bool true) ok ov d (i+1) es.size ep)->IU it h2 h3->Q (some (.ref h0.objs.size)) ⟨h3,gn,dr,tk,os⟩:=λh3 f3 sb3=>
   h h3 ⟨_,_,_,_,f3,.inr ⟨a,true,oa,rfl,rfl,sb3.extBut _ _ hai ha2,hai,haS⟩⟩ (sb3.extBut _ _ nit t2) λc o nb e=>sb3.extBut c o nb (k2 c o nb e)
  cases b with
  | true=>
   rw[if_neg (show ¬((Jc true != Jc true)=true)from G3)];refine P3 ?_;simp only[Hm,if_false];exact P3 (P3 ⟨_,rfl,P3 (fin h2 f2 (PD _ _))⟩)
  | false=>
   rw[if_pos (show(Jc false != Jc true)=true from rfl)];refine P2 (Qv f2 (by simp) λh3 f3 sb3=>P3 ?_);simp only[Hm,if_false];exact P3 (P3 ⟨_,rfl,P3 (fin h3 f3 sb3)⟩)
theorem Ae{es:Array Qs}{Q:Option Value->Shared->Prop}(hh:A.handled=none)(hi:Ri s.heap it d S i es.size ep)(hD:RawD s.heap d es ep)(hx:es[i]? = none)
  (h:∀g,Heap.ExtBut it s.heap g->Q none { s with heap:=g }):wpAny (model prog w) A (pyNext (.ref it)) Q E s:=by
 obtain⟨own,fl,ok,ov,hit,_⟩:=hi;obtain⟨o,ho,_,hd⟩:=hD;have ty:s.TypeIs (.ref it) "dict_itemiterator":=⟨_,hit,rfl⟩;unfold pyNext;refine P2 (wpAny_attempt (Qk (name:=Hi "__next__") ty Ih (Qg Ih ty J9 ?_ (JV _))));refine P2 (P3 (P2 (P2 ?_)))
 first|refine P2 (Qh ty (P3 ?_))|refine P2 (Qw ty (P3 ?_))
 refine P2 (wpAny_fieldsOf hit rfl ?_);simp only[show JJ "dict_itemiterator" = true by decide,if_true];show wpAny _ _ (if(Hb d == Hf)=true then _ else _) _ _ s
 rw[if_neg (show ¬((Hb d == Hf)=true)from G3)];refine P2 (P3 (P2 (wpAny_dictEntries ho hd ?_)));rw[if_neg (by simp)];refine P2 (P3 (P2 (wpAny_dictEpoch ho hd ?_)));rw[if_neg (by simp)];refine P3 ?_;simp only[show ¬((i:Int)<0)from by lia,if_false,HQ,hx];refine P2 ?_
 first|refine P2 (Qh ty (P3 ?_))|refine P2 (Qw ty (P3 ?_))
 show wpAny _ _ (setField (.ref it) 2 .none >>= _) _ _ s
 refine P2 (wpAny_setField hit rfl (by simp) ?_);show wpAny _ _ (newExc (.type "StopIteration") [] >>= _) _ _ _
 refine P2 ?_;simp only[newExc,newTuple];refine P2 (P5 ?_ (by size_fits));refine P2 (m:=firstArgMember _ _) (wpAny_of_eq (a:=Hf) (by first|rfl|(simp only[firstArgMember];rfl)) (P5 ?_ (by size_fits)));simp only[raiseNew];refine P2 (wpAny_handled ?_);rw[show A.in1.handled=none from hh];refine P2 (P3 (wpAny_throw ?_));refine P2 (wpAny_isInstance (T:="StopIteration") (b:=true) ⟨_,GT _ rfl,rfl⟩ isSubtype_stop ?_);exact P3 (h _ (((Jq ..).extBut.push _).push _))
def ph(es:Array Qs)(lo:Addr)(h:Heap)(as:List Addr):Prop:=(∀a∈as,lo<a)/\as.Nodup/\∀(j:Nat) (a:Addr),as[j]? = some a->∃x,es[j]? = some x/\h.get? a=some (dZ x)
theorem xA{I:Addr}{es:Array Qs}{R:Result->Shared->Prop}(hh:A.handled=none)(hSI:S<I)(hdS:d≠S)(hdI:d≠I)(hn:es.size<=P4)(res:Value){h0:Heap}
  (hR:∀g tk acc c as,(∀b o,b≠S->b≠I->h0.get? b=some o->g.get? b=some o)->g.get? S=some (seqObj "list" acc c)->as.length=es.size->ph es I g as->acc.toList=as.map Hb->R (.ok (.ret res)) { s with heap:=g,toks:=tk }) :
  ∀(k i:Nat) (h:Heap) (tk c:Nat) (acc:Array Value) (as:List Addr),es.size - i=k->i<=es.size->Ri h I d S i es.size ep->RawD h d es ep->(∀b o,b≠S->b≠I->h0.get? b=some o->h.get? b=some o)->
   h.get? S=some (seqObj "list" acc c)->acc.toList=as.map Hb->as.length=i->ph es I h as->I<h.objs.size->(∀a∈as,a<h.objs.size)->
   codeAny (model prog w) A (.builtin "list.extend.loop" ⟨[.ref S,.ref I,res],[]⟩) R { s with heap:=h,toks:=tk }:=by
 have ne:S≠I:=GV hSI;intro k
 induction k with
 | zero=>
  intro i h tk c acc as hk hi hst hD kp hS hacc hal hP hIs hlt;refine Qd LA ?_;rw[HS IF _];show wpAny _ A.in1 (pyNext (.ref I) >>= _) _ _ _
  refine P2 (Ae (s:={ s with heap:=h,toks:=tk }) (A:=A.in1) hh hst hD (by simp;lia) λg eb=>?_);refine P3 (hR g tk acc c as (λb o q1 q2 e=>eb b o q2 (kp b o q1 q2 e)) (eb S _ ne hS) ⋯ ⟨hP.1,hP.2.1,λj a hj=>?_⟩ hacc);obtain⟨x,e1,e2⟩:=hP.2.2 j a hj;exact⟨x,e1,eb a _ (Ho (hP.1 a (Hc hj))) e2⟩
 | succ k ih=>
  intro i h tk c acc as hk hi hst hD kp hS hacc hal hP hIs hlt;have hl:i<es.size:=by lia
  have hsz:acc.size=i:=by rw[<-Ii,hacc,GA,hal]
  have hSl:S<h.objs.size:=GK hS;refine Qd LA ?_;rw[HS IF _];show wpAny _ A.in1 (pyNext (.ref I) >>= _) _ _ _
  refine P2 (xz (s:={ s with heap:=h,toks:=tk }) hst hSl hD (x:=es[i]) (by simp[hl]) λg st1 t1 k1=>?_);dsimp only at t1 k1 ⊢;have hS1:=k1 S _ ne hS;have up:∀b o,b≠S->g.get? b=some o->(g.update S (Hd (·.push (Hb h.objs.size)))).get? b=some o:=λb o nb e=>(Il _ _ (Hx nb)).trans e
  have nS:h.objs.size≠S:=Ho hSl;have t2:=up _ _ nS t1;show wpAny _ A.in1 (updateSeq S (·.push (Hb h.objs.size)) >>= _) _ _ _
  refine P2 (Qy hS1 rfl (P3 ⟨Qe IF _,ih (i+1) _ tk _ (acc.push (Hb h.objs.size)) (as++[h.objs.size]) ⋯ hl (st1.at up (Hx ne)) (hD.at λo e=>up d o hdS (k1 d o hdI e))
   (λb o q1 q2 e=>up b o q1 (k1 b o q2 (kp b o q1 q2 e))) (IZ _ hS1 rfl) (by rw[Array.toList_push,hacc,GM];rfl) (by rw[GZ,hal];rfl) ⟨λa ha=>?_,?_,λj a hj=>?_⟩ ?_ λa ha=>?_⟩) (by rw[hsz];lia) (by show(acc.push (Hb h.objs.size)).size<=P4+1;rw[NX,hsz];lia))
  ·rcases G9.mp ha with q|q
   ·exact hP.1 a q
   ·rw[G1.mp q];exact hIs
  ·refine Nv.mpr ⟨hP.2.1,Iv _ _,λa ha b hb e=>?_⟩
   rw[G1.mp hb]at e;exact absurd (e▸hlt a ha) (Hw _)
  ·by_cases q:j<as.length
   ·rw[G6 q]at hj
    obtain⟨x,e1,e2⟩:=hP.2.2 j a hj;have ga:=hP.1 a (Hc hj);exact⟨x,e1,up a _ (Ho (JZ hSI ga)) (k1 a _ (Ho ga) e2)⟩
   ·have q2:=(GQ.mp hj).1
    have ej:j=as.length:=by simp at q2;lia
    subst ej;have ea:h.objs.size=a:=by simpa using hj
    subst ea;exact⟨es[i],by rw[hal];simp[hl],t2⟩
  ·exact JZ hIs (GK t2)
  ·rcases G9.mp ha with q|q
   ·exact JZ (hlt a q) (GK t2)
   ·rw[G1.mp q];exact GK t2
theorem xB{v:Addr}{es:Array Qs}(hv:s.heap.IsItemsView v d)(hD:RawD s.heap d es ep)
  (hQ:Q (.ref s.heap.objs.size) { s with heap:=s.heap.push (cb .none (.bool false) .none .none d 0 es.size ep) }):wpAny (model prog w) A (pyIter (.ref v)) Q E s:=by
 obtain⟨ov,hov,_,hdv⟩:=id hv;obtain⟨o,ho,_,hd⟩:=hD;refine wpAny_pyIter_slot hv.typeIs K6 (Qg K6 hv.typeIs PySem.F.entry_dict_items_iter ?_ (PySem.F.args_dict_items_iter_1 _));unfold Builtin.«dict_items.__iter__»;refine P2 (P3 (P2 ?_));unfold Ox;refine P2 (Qj hov hdv (x:=.ref d) rfl (P3 (P2 ?_)));unfold NY;refine P2 (wpAny_dictEntries ho hd (P2 (wpAny_dictEpoch ho hd ?_)));simp only[show JJ "dict_itemiterator" = true by decide,if_true];refine P5 (P3 ⟨_,rfl,"dict_itemiterator",_,⟨_,GT _ rfl,rfl⟩,Ih.lookup,?_⟩) (by simp only[sizeOk,Kh,GO,GZ,Hh,Ie,Qb];lia);unfold cb at hQ;simpa [Qp,Kh]using hQ
theorem pi{v:Addr}{es:Array Qs}{Q:List Value->Shared->Prop}(hh:A.handled=none)(hv:s.heap.IsItemsView v d)(hD:RawD s.heap d es ep)(hn:es.size<=P4)
  (h:∀g tk as,(∀b o,s.heap.get? b=some o->g.get? b=some o)->as.length=es.size->ph es s.heap.objs.size g as->Q (as.map Hb) { s with heap:=g,toks:=tk }):wpAny (model prog w) A (collect (.ref v)) Q E s:=by
 have hvl:v<s.heap.objs.size:=by obtain⟨_,e,_⟩:=hv;exact GK e
 have hdl:d<s.heap.objs.size:=by obtain⟨_,e,_⟩:=hD;exact GK e
 unfold collect;refine P2 (wpAny_runValue (Qd Le ?_));rw[HS Lf _];show wpAny _ A.in1 (newList [] >>= λl=>again (.builtin "list.__iadd__" ⟨[l,.ref v],[]⟩)) _ _ s
 refine P2 (P5 ?_);refine P3 ⟨Qe Ju _,Qd Mb ?_⟩;rw[HS Ju _];show wpAny _ A.in1 (JM (.ref s.heap.objs.size) (.ref v) (.ref s.heap.objs.size)) _ _ _
 -- the list at S,the iterator behind it
 have key:∀(h1:Heap) (c1 tk:Nat),(∀b o,b≠s.heap.objs.size->((s.heap.push (seqObj "list" #[] 0)).push (cb .none (.bool false) .none .none d 0 es.size ep)).get? b=some o->h1.get? b=some o)->h1.get? s.heap.objs.size=some (seqObj "list" #[] c1)->
   codeAny (model prog w) A (.builtin "list.extend.loop" ⟨[.ref s.heap.objs.size,.ref (s.heap.push (seqObj "list" #[] 0)).objs.size,.ref s.heap.objs.size],[]⟩)
    (λq s'=>∃g tk acc c as,q=.ok (.ret (.ref s.heap.objs.size))/\s'={ s with heap:=g,toks:=tk }/\(∀b o,s.heap.get? b=some o->g.get? b=some o)/\g.get? s.heap.objs.size=some (seqObj "list" acc c)/\as.length=es.size/\ph es s.heap.objs.size g as/\acc.toList=as.map Hb) { s with heap:=h1,toks:=tk }:=by
  intro h1 c1 tk hk1 hS1;have eI:(s.heap.push (seqObj "list" #[] 0)).objs.size=s.heap.objs.size+1:=QV ..;have hI:=hk1 (s.heap.push (seqObj "list" #[] 0)).objs.size _ (by rw[eI];exact LM _) (GT _ rfl);have hd1:RawD h1 d es ep:=hD.at λo e=>hk1 d o (GV hdl) (GD _ (GD _ e))
  refine xA (s:=s) (h0:=s.heap) (ep:=ep) hh (by rw[eI];exact LL _) (GV hdl) (by rw[eI];exact GV (IJ hdl)) hn _ (λg tk2 acc c as kp tS hl hP hacc=>?_)
   es.size 0 h1 tk c1 #[] [] ⋯ (GR _) ⟨_,_,_,_,hI,.inl ⟨rfl,rfl⟩⟩ hd1 (λb o q1 q2 e=>hk1 b o q1 (GD _ (GD _ e))) hS1 rfl rfl ⟨λa ha=>(nomatch ha),MI,λj a hj=>by simp at hj⟩ (GK hI) (λa ha=>nomatch ha)
  exact⟨g,tk2,acc,c,as,rfl,rfl,λb o e=>kp b o (GV (GK e)) (by rw[eI];exact GV (IJ (GK e))) e,tS,hl,⟨λa ha=>JZ (by rw[eI];exact LL _) (hP.1 a ha),hP.2⟩,hacc⟩
 have fin:∀s',(∃g tk acc c as,s'={ s with heap:=g,toks:=tk }/\(∀b o,s.heap.get? b=some o->g.get? b=some o)/\g.get? s.heap.objs.size=some (seqObj "list" acc c)/\as.length=es.size/\ph es s.heap.objs.size g as/\acc.toList=as.map Hb)->
   wpAny (model prog w) A (match Hb s.heap.objs.size with
   | Hb a=>do
    match(<-load a).data with
     | OV xs _=>pure xs.toList
     | _=>unsupported "internal:collect"
   | _=>unsupported "internal:collect") Q E s':=by
  rintro s' ⟨g,tk,acc,c,as,rfl,kp,tS,hl,hP,hacc⟩;show wpAny _ A (load s.heap.objs.size >>= _) _ _ _
  refine P2 (wpAny_load tS (P3 ?_));show Q acc.toList _
  rw[hacc];exact h g tk as kp hl hP
 have hv1:(s.heap.push (seqObj "list" #[] 0)).IsItemsView v d:=by
  obtain⟨o,e,r⟩:=hv;exact⟨o,GD _ e,r⟩
 have hD1:RawD (s.heap.push (seqObj "list" #[] 0)) d es ep:=hD.at λo e=>GD _ e
 have hS0:(s.heap.push (seqObj "list" #[] 0)).get? s.heap.objs.size=some (seqObj "list" #[] 0):=GT _ rfl;show wpAny _ _ _ _ _ { s with heap:=s.heap.push (seqObj "list" #[] 0) }
 unfold JM;refine P2 (QF (T:="dict_items") (s:={ s with heap:=s.heap.push (seqObj "list" #[] 0) }) hv1.typeIs ?_);have n1:Jj (.ref s.heap.objs.size) (.ref v)=false:=by simp[Jj,Ho hvl]
 simp only[n1,show(Im "dict_items" == Im "list")=false by decide,show(Im "dict_items" == Im "tuple")=false by decide,Oa,Hm,if_false];refine P2 (xB (s:={ s with heap:=s.heap.push (seqObj "list" #[] 0) }) hv1 hD1 ?_);have hS1:=GD (cb .none (.bool false) .none .none d 0 es.size ep) hS0;refine P2 (P7 (kdx_hint (let⟨o,ho,hc,_⟩:=hv1;⟨o,GD _ ho,hc⟩) ?_));have fin2:∀(q:Result) s',(∃g tk acc c as,q=.ok (.ret (.ref s.heap.objs.size))/\s'={ s with heap:=g,toks:=tk }/\(∀b o,s.heap.get? b=some o->g.get? b=some o)/\g.get? s.heap.objs.size=some (seqObj "list" acc c)/\as.length=es.size/\ph es s.heap.objs.size g as/\acc.toList=as.map Hb)->q=.ok (.ret (.ref s.heap.objs.size))/\∃g tk acc c as,s'={ s with heap:=g,toks:=tk }/\(∀b o,s.heap.get? b=some o->g.get? b=some o)/\g.get? s.heap.objs.size=some (seqObj "list" acc c)/\as.length=es.size/\ph es s.heap.objs.size g as/\acc.toList=as.map Hb:=by
  rintro q s' ⟨g,tk,acc,c,as,e,r⟩;exact⟨e,g,tk,acc,c,as,r⟩
 refine wpAny_ite_split (λ_=>?_) (λ_=>P3 ⟨Qe IF _,QM (key _ 0 s.toks (λb o _ e=>e) hS1) λq s' hq=>by obtain⟨rfl,r⟩:=fin2 q s' hq;exact fin s' r⟩);refine P2 (wpAny_rule (P2 ?_));show wpAny _ _ (updateSeq s.heap.objs.size (·.push .none) >>= λ_=>updateSeq s.heap.objs.size (·.pop)) _ _ _
 refine P2 (Qy hS1 rfl ?_);have hS2:=IZ (Hd (·.push Hf)) hS1 rfl;refine Qy (hz:=by seq_fits) hS2 rfl ?_;have hS3:=IZ (Hd (·.pop)) hS2 rfl;refine P3 ⟨Qe IF _,QM (key _ _ s.toks (λb o nb e=>?_) hS3) λq s' hq=>by obtain⟨rfl,r⟩:=fin2 q s' hq;exact fin s' r⟩;exact(Il _ _ (Hx nb)).trans ((Il _ _ (Hx nb)).trans e)
end
section
variable{prog:Program}{w:World}{A:Around}{E:Value->Shared->Prop}{s:Shared}
theorem pj{v:Value}
  (h:wpAny (model prog w) A.in1 (collect v) (λvs s1=>vs.length<64/\∃(κ:SortKind) (lt:Nat->Nat->Bool),Lt lt/\
   (∀h' (Q':SortKind->Shared->Prop),2<=vs.length->(∀b o,s1.heap.get? b=some o->h'.get? b=some o)->Q' κ { s1 with heap:=h' }->wpAny (model prog w) A.in1.in1 (keyKind' vs.toArray) Q' (λ_ _=>False) { s1 with heap:=h' })/\
   (∀h' i j (Q':Bool->Shared->Prop),i<vs.length->j<vs.length->(∀b o,s1.heap.get? b=some o->h'.get? b=some o)->Q' (lt i j) { s1 with heap:=h' }->
    wpAny (model prog w) A.in1.in1 (keyLt' κ (vs.getD i Hf) (vs.getD j Hf)) Q' (λ_ _=>False) { s1 with heap:=h' })/\
   ∀p:List Nat,p.Perm (GH vs.length)->p.Pairwise (Ah lt)->Q (.ref s1.heap.objs.size) { s1 with heap:=sortedHeap (s1.heap.push (seqObj "list" vs.toArray 0)) s1.heap.objs.size vs (Hk (p.map λi=>vs.getD i Hf)) }) E s) :
  wpAny (model prog w) A (call (.builtin "sorted") [v]) Q E s:=by
 refine Calls.call_function_entry kind_sorted plain_sorted entry_sorted (args_sorted1 _) ?_;unfold Builtin.«sorted»;refine P2 (m:=checkCount "sorted" 1 1 _) (P3 ?_);refine P2 (P8 h (λvs s1 hv=>?_) λ_ _ z=>z);obtain⟨h64,κ,lt,hL,hk,hc,hq⟩:=hv;refine P2 (wpAny_newList ?_ (by rw[Qb];lia));have hoL:(s1.heap.push (seqObj "list" vs.toArray 0)).get? s1.heap.objs.size=some (seqObj "list" vs.toArray 0):=GT _ rfl;have ne:∀b o,s1.heap.get? b=some o->b≠s1.heap.objs.size:=λb o q=>GV (GK q)
 show wpAny _ _ _ _ _ { s1 with heap:=s1.heap.push (seqObj "list" vs.toArray 0) }
 refine P2 (P7 (Qg slot_list_sort ⟨_,hoL,rfl⟩ entry_list_sort (lN (s:={ s1 with heap:=s1.heap.push (seqObj "list" vs.toArray 0) }) hoL h64 hL
  (λh' Q' h2 k q=>hk h' Q' h2 (λb o e=>k b o (ne b o e) (GD _ e)) q) (λh' i j Q' hi hj k q=>hc h' i j Q' hi hj (λb o e=>k b o (ne b o e) (GD _ e)) q) λp a1 a2=>⟨_,rfl,?_⟩) (args_list_sort _)))
 exact P3 ⟨_,rfl,hq p a1 a2⟩
theorem uM{es:Array Qs}(hD:RawD s.heap d es ep)(hd:(d == Qt)=false)
  (h:Q (.ref s.heap.objs.size) { s with heap:=s.heap.push { cls:=.type "dict_items",data:=.fields #[.ref d] } }):wpAny (model prog w) A (call (.builtin "dict.items") [.ref d]) Q E s:=by
 obtain⟨o,ho,hx,_⟩:=hD;have ty:s.TypeIs (.ref d) "dict":=⟨o,ho,hx.1⟩;refine Qg Me ty PySem.F.entry_dict_items ?_ (PySem.F.args_dict_items_1 _);unfold Builtin.«dict.items»;refine P2 ?_;unfold Pq;refine P2 (wpAny_notOrdered_dict ty ?_);show wpAny _ _ (pure d) _ _ s
 refine P3 ?_;show wpAny _ _ (MM d >>= _) _ _ s
 unfold MM;rw[if_neg (by rw[hd];exact G3)];exact P2 (P3 (P2 (P5 (P3 ⟨_,rfl,h⟩))))
end
end HT
namespace L2
open PySem PySem.Spec PyProof.Rows PySem.W
noncomputable def dN:Hp->List (Addr×HO)->Hp
 | H,[]=>H
 | H,(a,o)::r=>upd (dN H r) a o
theorem g5{H:Hp}{b:Addr}:∀{ts:List (Addr×HO)},(∀p∈ts,p.1≠b)->dN H ts b=H b
 | [],_=>rfl
 | (a,o)::r,h=>by
  show upd (dN H r) a o b=H b
  rw[ai (Hx (h (a,o) (Hl ..)))];exact g5 λp hp=>h p (Hn _ hp)
theorem nJ{H:Hp}{b:Addr}{u:HO}:∀{ts:List (Addr×HO)},(ts.map (·.1)).Nodup->(b,u)∈ts->dN H ts b=some u
 | [],_,h=>nomatch h
 | (a,o)::r,hn,h=>by
  rw[Hg,Iw]at hn;show upd (dN H r) a o b=some u
  rcases GW.mp h with e|e
  ·cases e;exact aa
  ·have:b≠a:=λz=>hn.1 (by rw[<-z];exact GX.mpr ⟨(b,u),e,rfl⟩)
   rw[ai this];exact nJ hn.2 e
theorem jU{H:Hp}{b:Addr}{u:HO}:∀{ts:List (Addr×HO)},dN H ts b=some u->(b,u)∈ts\/((∀p∈ts,p.1≠b)/\H b=some u)
 | [],h=>.inr ⟨λp hp=>(nomatch hp),h⟩
 | (a,o)::r,h=>by
  by_cases e:b=a
  ·subst e
   rw[show dN H ((b,o)::r) b=some o from aa]at h;cases h;exact .inl (Hl ..)
  ·have h2:dN H r b=some u:=by rw[<-h];show _=upd (dN H r) a o b;rw[ai e]
   rcases jU h2 with q|⟨q1,q2⟩
   ·exact .inl (Hn _ q)
   ·refine .inr ⟨λp hp=>?_,q2⟩
    rcases GW.mp hp with z|z
    ·rw[z];exact Hx e
    ·exact q1 p z
section
variable{X:Cx}{pins:List (Addr×Obj)}{σ:St}{H:Hp}{s:Shared}{h':Heap}
theorem Inv.laidAll{ts:List (Addr×HO)}(I:Inv X pins σ H s)(k:∀b u,s.heap.get? b=some u->h'.get? b=some u)(hp:∀p∈ts,s.heap.objs.size<=p.1)(new:∀p∈ts,ObjOk X.prog X.w (dN H ts) h' p.1 p.2):
  Inv X pins σ (dN H ts) { s with heap:=h',toks:=t' }:=by
 have fr:∀p∈ts,H p.1=none:=λp q=>I.hok.fresh (hp p q)
 have old:∀b u,H b=some u->dN H ts b=some u:=λb u e=>by rw[g5 λp q z=>by rw[<-z,fr p q]at e;cases e];exact e
 refine I.un (H':=dN H ts) ⟨λb u q _ _ _=>k b u q,λb u q _ _ _=>⟨u.slots,k b u q⟩,λb u q n _=>?_,λb u q _=>⟨u,k b u q⟩,λb xs q=>old _ _ q,λb u xs q=>old _ _ q,λb ps q=>⟨#[],by rw[old _ _ q];simp⟩⟩ λb u e=>?_
 ·rw[g5 λp hm z=>absurd (GK q) (by rw[<-z];exact Kv (hp p hm))];exact n
 ·rcases jU e with q|⟨_,q⟩
  ·exact new (b,u) q
  ·exact(I.hok b u q).stay (λc v _ z=>k c v z) (λc z=>old _ _ z) λc xs z=>old _ _ z
end
theorem uN{α β:Type}{R:α->β->Prop}{xs:List α}{ys:List β}(h:Paired R xs ys):∀{j:Nat}{x:α}{y:β},xs[j]? = some x->ys[j]? = some y->R x y:=by
 induction h with
 | nil=>intro j x y h1 _;simp at h1
 | cons h t ih=>
  intro j x y h1 h2;cases j with
  | zero=>simp at h1 h2;rw[<-h1,<-h2];exact h
  | succ j=>exact ih (by simpa using h1) (by simpa using h2)
noncomputable def iW(r:List Int):List Key:=r.map KZ
theorem pk(r:List Int):(iW r).map kV=r.map PR:=by
 unfold iW;rw[Hv];rfl
theorem lX{a b:List Int}(h:iW a=iW b):a=b:=by
 unfold iW at h;exact List.map_inj_right (λx y e=>O2 e) |>.mp h
section
variable{X:Cx}{o e f:Expr}{td ty tx:TE}{pos apos cpos p:Pos}
theorem qC:QE X (.Dict [] [] pos) ut:=⟨xl⟩
theorem lY (hu:X.A.units+1<cLine) (ho:QE X o td) (he:QE X e ty) (hf:QE X f tx) (hbase:attributeBase o ("get" : Str) X.env (eval o X.env)=eval o X.env:=by rfl) (hline:(apos.endLine == cpos.line)=true:=by rfl) (hn:bQ e=true:=by rfl) (hn2:bQ f=true:=by rfl) :
  QE X (.Call (.Attribute o "get" apos) [e,f] [] cpos) (uu td ty tx):=by
 have e1:starEach [e,f] X.env=[(false,eval e X.env),(false,eval f X.env)]:=by rw[aC hn,aC hn2];rfl
 exact⟨xm hu ho.out he.out hf.out ⟨hbase,by rw[e1];rfl,hline,by rw[e1];rfl⟩⟩
def uO(td:TE):TE:=λσ H Q=>td σ H λx H1=>∃(a:Addr) (ps:List (List Int×Int)),x=.ref a/\H1 a=some (.dT (ps.map λq=>(iW q.1,PR q.2)))/\ps.length<64/\
 ∀(d:Addr) (as qs:List Addr) (zs:List (List Int×Int)) H',H1 d=none->Same H1 H'->H' d=some (.lst (as.map PY))->as.length=zs.length->qs.length=zs.length->zs.Perm ps->zs.Pairwise (λy z=>HT.aY z.1 y.1=false)->
  (∀(i:Nat) a q z,as[i]? = some a->qs[i]? = some q->zs[i]? = some z->H' a=some (.tup [.ref q,.int z.2])/\H' q=some (.tup (z.1.map PR)))->Q (.ref d) H'
theorem Af{y z:List Int×Int}(h:HT.lt2 (z.1,[z.2]) (y.1,[y.2])=false):HT.aY z.1 y.1=false:=by
 unfold HT.lt2 at h;by_cases g:z.1=y.1
 ·rw[g]
  cases q:HT.aY y.1 y.1 with
  | false=>rfl
  | true=>exact absurd (HT.dM _ _ q) (by rw[q];exact Bool.noConfusion)
 ·rw[if_neg g]at h;exact h
theorem uP (hc:X.calm=true) (hu:X.A.units+64<cLine) (hg:Gl X "sorted") (hm:X.mg "sorted" = none) (ho:QE X o td) (hbase:attributeBase o ("items" : Str) X.env (eval o X.env)=eval o X.env:=by rfl) (hline:(apos.endLine == cpos.line)=true:=by rfl) :
  QE X (.Call (.Name "sorted" p) [.Call (.Attribute o "items" apos) [] [] cpos] [] pos) (uO td):=by
 refine⟨λpins s σ H Q I h=>?_⟩;refine Call_ (dh I hg hm (by decide +kernel:bootBuiltins "sorted" = some (.builtin "sorted")) (IT rfl (KJ ?_)));refine IV (wpAny_Call_method0_late hbase hline (thn (ho.out pins s σ H _ I h) λv s1 ⟨x,H1,I1,rx,q1⟩=>?_));obtain⟨a,ps,rfl,ha,h64,q⟩:=q1;obtain rfl:v=Hb a:=rx;obtain⟨z,hd,xs,rel,ob,es,ep,e1,e2,e3,e4,e5⟩:=(show ObjOk X.prog X.w H1 s1.heap a (.dT _)from I1.hok a _ ha);have hD:HT.RawD s1.heap a es ep:=⟨ob,e1,e2,e3⟩;refine⟨"dict","dict.items",Ma,Me,PySem.F.type_dict_items,⟨ob,e1,e2.1⟩,λb w'=>by cases w';exact⟨ob,e1,e2.2.1⟩,IT rfl (MZ ?_)⟩;refine HT.uM hD hd (JA ?_);have I2:Inv X pins σ H1 { s1 with heap:=s1.heap.push { cls:=.type "dict_items",data:=.fields #[.ref a] } }:=I1.kept (t':=s1.toks) λb u w'=>GD _ w'
 have lxs:xs.length=ps.length:=by have:=rel.length;rw[GA]at this;exact this.symm
 have les:es.size=ps.length:=by rw[<-Ii,e4,GA,lxs]
 -- the j-th entry
 have ent:∀(j:Nat) x,es[j]? = some x->∃z k,ps[j]? = some z/\x.key=.ref k/\RelV (.int z.2) x.val/\H1 k=some (.tup (z.1.map PR)):=by
  intro j x hx;rw[<-JE,e4,GE]at hx;obtain⟨y,hy,rfl⟩:=HU.mp hx;have hj:j<ps.length:=by rw[<-lxs];exact(GQ.mp hy).1
  have hz:(ps.map λq=>(iW q.1,PR q.2))[j]? = some (iW ps[j].1,PR ps[j].2):=by rw[GE];simp[hj]
  obtain⟨r1,r2,r3⟩:=uN rel hz hy;exact⟨ps[j],y.2.1,by simp[hj],rfl,r3,by rw[r2,pk]⟩
 refine HT.pj ?_;refine HT.pi (s:={ s1 with heap:=s1.heap.push { cls:=.type "dict_items",data:=.fields #[.ref a] } }) (I.ok.hd hc) ⟨_,GT _ rfl,rfl,rfl⟩ (hD.at λo' w'=>GD _ w') (by rw[les,Qb];lia) λg tk as kp hl hP=>?_
 have hlp:as.length=ps.length:=by rw[hl,les]
 -- the new tuples,tracked
 obtain⟨qs,hql,hqs⟩:∃qs:List Addr,qs.length=as.length/\∀(j:Nat) b q,as[j]? = some b->qs[j]? = some q->∃z,ps[j]? = some z/\H1 q=some (.tup (z.1.map PR))/\∃t,g.get? b=some { cls:=.type "tuple",data:=.seq #[.ref q,.int z.2 t] }:=by
  have jq:∀j:Nat,∃q:Addr,∀b,as[j]? = some b->∃z,ps[j]? = some z/\H1 q=some (.tup (z.1.map PR))/\∃t,g.get? b=some { cls:=.type "tuple",data:=.seq #[.ref q,.int z.2 t] }:=λj=>by
   cases eb:as[j]? with
   | none=>exact⟨0,λb w'=>nomatch w'⟩
   | some b=>
    obtain⟨x,x1,x2⟩:=hP.2.2 j b eb;obtain⟨z,k,z1,z2,⟨t,z3⟩,z4⟩:=ent j x x1;refine⟨k,λb' w'=>?_⟩;cases w';unfold HT.dZ at x2;rw[z2,z3]at x2;exact⟨z,z1,z4,t,x2⟩
  refine⟨(GH as.length).map λj=>(jq j).choose,by simp,λj b q w1 w2=>?_⟩;have hj:=(GQ.mp w1).1;rw[GE,Hu hj]at w2;have:=G8 w2;subst this;exact(jq j).choose_spec b w1
 have fresh:∀b∈as,s1.heap.objs.size<=b:=λb hb=>by
  have:=hP.1 b hb;rw[show(s1.heap.push { cls:=.type "dict_items",data:=.fields #[.ref a] }).objs.size=s1.heap.objs.size+1 from QV ..]at this;exact HK (Nat.lt_of_succ_lt this)
 have kp1:∀b u,s1.heap.get? b=some u->g.get? b=some u:=λb u w'=>kp b u (GD _ w')
 let ts:List (Addr×HO):=(GH as.length).map λj=>(as.getD j 0,.tup [.ref (qs.getD j 0),.int (ps.getD j ([],0)).2])
 have gd:∀j,j<as.length->as[j]? = some (as.getD j 0)/\qs[j]? = some (qs.getD j 0)/\ps[j]? = some (ps.getD j ([],0)):=λj hj=>by
  refine⟨?_,?_,?_⟩
  ·rw[GB,Gz hj];rfl
  ·rw[GB,Gz ⋯];rfl
  ·rw[GB,Gz ⋯];rfl
 have tsn:(ts.map (·.1)).Nodup:=by
  have e:ts.map (·.1)=as:=by
   show((GH as.length).map _).map _=as
   rw[Hv];exact qx as 0
  rw[e];exact hP.2.1
 have tsm:∀p∈ts,∃j,j<as.length/\p=(as.getD j 0,.tup [.ref (qs.getD j 0),.int (ps.getD j ([],0)).2]):=λp hp=>by
  obtain⟨j,hj,e⟩:=GX.mp hp;exact⟨j,Hj.mp hj,e.symm⟩
 have I3:Inv X pins σ (dN H1 ts) { s1 with heap:=g,toks:=tk }:=by
  refine I1.laidAll kp1 (λp hp=>?_) λp hp=>?_
  ·obtain⟨j,hj,rfl⟩:=tsm p hp
   exact fresh _ (Hc (gd j hj).1)
  ·obtain⟨j,hj,rfl⟩:=tsm p hp
   obtain⟨z,z1,z2,t,z3⟩:=hqs j _ _ (gd j hj).1 (gd j hj).2.1;rw[(gd j hj).2.2]at z1;cases z1;exact⟨by show 2<=P4;decide,[.ref (qs.getD j 0),.int (ps.getD j ([],0)).2 t],.cons rfl (.cons ⟨t,rfl⟩ .nil),_,z3,rfl,_,rfl⟩
 have sm:Same H1 (dN H1 ts):=λb u w'=>by
  rw[g5 λp hp z=>?_]
  ·exact w'
  ·obtain⟨j,hj,rfl⟩:=tsm p hp
   have:=I1.hok.fresh (fresh _ (Hc (gd j hj).1));have z2:as.getD j 0=b:=z;rw[z2,w']at this;cases this
 have tnew:∀j,j<as.length->dN H1 ts (as.getD j 0)=some (.tup [.ref (qs.getD j 0),.int (ps.getD j ([],0)).2]):=λj hj=>nJ tsn (GX.mpr ⟨j,Hj.mpr hj,rfl⟩)
 have tkey:∀j,j<as.length->dN H1 ts (qs.getD j 0)=some (.tup ((ps.getD j ([],0)).1.map PR)):=λj hj=>by
  obtain⟨z,z1,z2,_⟩:=hqs j _ _ (gd j hj).1 (gd j hj).2.1;rw[(gd j hj).2.2]at z1;cases z1;exact sm _ _ z2
 have lm:(as.map Hb).length=as.length:=GA _;have get:∀i,i<as.length->(as.map Hb).getD i Hf=.ref (as.getD i 0):=λi hi=>by
  rw[GB,GB,GE,Gz hi];rfl
 have tup:∀(h':Heap),(∀b o,g.get? b=some o->h'.get? b=some o)->∀i,i<as.length->∃us jts,IsTup h' (as.getD i 0) (.ref (qs.getD i 0)::us).toArray/\P9 us [(ps.getD i ([],0)).2]/\IsTup h' (qs.getD i 0) jts/\P9 jts.toList (ps.getD i ([],0)).1:=λh' hk i hi=>by
  obtain⟨its,r1,⟨o1,ho1,hc1⟩,_⟩:=I3.tuple (PQ (tnew i hi));obtain⟨jts,r2,⟨o2,ho2,hc2⟩,_⟩:=I3.tuple (PQ (tkey i hi));cases r1 with
  | cons rv r1=>
   cases rv;exact⟨_,jts.toArray,⟨o1,hk _ _ ho1,hc1⟩,bF (ns:=[(ps.getD i ([],0)).2]) r1,⟨o2,hk _ _ ho2,hc2⟩,bF r2⟩
 refine⟨by rw[lm];lia,tuples' false,λi j=>HT.lt2 ((ps.map λz=>(z.1,[z.2])).getD i ([],[])) ((ps.map λz=>(z.1,[z.2])).getD j ([],[])),HT.Cr _,λh' Q' h2 k hQ=>?_,λh' i j Q' hi hj k hQ=>?_,λp hp hs=>?_⟩
 ·refine HT.xx (fs:=qs.map Hb) h2 (by rw[lm,GA,hql]) (HT.qA (by rw[lm,GA,hql]) (λi v f w1 w2=>?_)) (λf hf=>?_) hQ
  ·rw[GE]at w1 w2
   obtain⟨b,eb,rfl⟩:=HU.mp w1;obtain⟨c,ec,rfl⟩:=HU.mp w2;have hi:=(GQ.mp eb).1;obtain⟨us,jts,t1,_⟩:=tup h' k i hi;have x1:=(gd i hi).1;rw[eb]at x1;have x2:=(gd i hi).2.1;rw[ec]at x2;rw[G8 x1,G8 x2];exact⟨_,_,us,rfl,t1,rfl⟩
  ·obtain⟨c,hqm,rfl⟩:=GX.mp hf
   obtain⟨i,hi,rfl⟩:=IP hqm;obtain⟨us,jts,_,_,t2,_⟩:=tup h' k i ⋯;have x2:=(gd i ⋯).2.1;rw[Gz hi]at x2;rw[G8 x2];exact⟨_,jts,rfl,t2⟩
 ·rw[lm]at hi hj
  obtain⟨us,jts,t1,i1,t2,i2⟩:=tup h' k i hi;obtain⟨us',jts',t1',i1',t2',i2'⟩:=tup h' k j hj;rw[get i hi,get j hj];have ki:(ps.map λz=>(z.1,[z.2])).getD i ([],[])=((ps.getD i ([],0)).1,[(ps.getD i ([],0)).2]):=by rw[GB,GE,(gd i hi).2.2];rfl
  have kj:(ps.map λz=>(z.1,[z.2])).getD j ([],[])=((ps.getD j ([],0)).1,[(ps.getD j ([],0)).2]):=by rw[GB,GE,(gd j hj).2.2];rfl
  dsimp only at hQ;rw[ki,kj]at hQ;exact HT.Aa (show X.A.units+1+1<cLine by lia) t1 t1' rfl rfl i1 i1' t2 t2' i2 i2' hQ
 ·have hoL:(g.push (seqObj "list" (as.map Hb).toArray 0)).get? g.objs.size=some (seqObj "list" (as.map Hb).toArray 0):=GT _ rfl
  obtain⟨c,hcc⟩:=sortedHeap_at (out:=Hk (p.map λi=>(as.map Hb).getD i Hf)) hoL;have hpl:=hp.length_eq;rw[HH,lm]at hpl;rw[lm]at hp;have pm:∀i∈p,i<as.length:=λi hi=>Hj.mp (hp.mem_iff.mp hi)
  refine⟨.ref g.objs.size,_,I3.laid (t':=tk) (λb o' w'=>?_) (GF _) (show ObjOk X.prog X.w _ _ _ (.lst ((p.map λi=>as.getD i 0).map PY))from⟨?_,_,c,?_,hcc⟩),rfl,?_⟩
  ·have hlt:=GK w'
   rw[sortedHeap_old (GV hlt) (by rw[QV];exact IJ hlt)];exact GD _ w'
  ·rw[GA,GA,hpl,Qb];lia
  ·rw[Hv]
   refine lP λi hi=>?_
   rw[get i (pm i hi)];rfl
  have fr3:dN H1 ts g.objs.size=none:=I3.hok.fresh (GF _);have smn:Same (dN H1 ts) (upd (dN H1 ts) g.objs.size (.lst ((p.map λi=>as.getD i 0).map PY))):=λb u w'=>by rw[ai (ae w' fr3)];exact w'
  have fr1:H1 g.objs.size=none:=by
   cases w9:H1 g.objs.size with
   | none=>rfl
   | some u=>have:=sm _ _ w9;rw[fr3]at this;cases this
  refine q g.objs.size (p.map λi=>as.getD i 0) (p.map λi=>qs.getD i 0) (p.map λi=>ps.getD i ([],0)) _ fr1 (λb u w'=>smn _ _ (sm b u w')) aa (by simp) (by simp) ?_ ?_ ?_
  ·have:=hp.map (λi=>ps.getD i ([],0))
   rw[hlp,qx]at this;exact this
  ·rw[Km]
   refine hs.imp_of_mem λ{i j} hi hj hA=>?_
   have e9:=hA.1;have ki:(ps.map λz=>(z.1,[z.2])).getD i ([],[])=((ps.getD i ([],0)).1,[(ps.getD i ([],0)).2]):=by rw[GB,GE,(gd i (pm i hi)).2.2];rfl
   have kj:(ps.map λz=>(z.1,[z.2])).getD j ([],[])=((ps.getD j ([],0)).1,[(ps.getD j ([],0)).2]):=by rw[GB,GE,(gd j (pm j hj)).2.2];rfl
   simp only[ki,kj]at e9;exact Af e9
  ·intro i b c z w1 w2 w3
   rw[GE]at w1 w2 w3;obtain⟨j,ej,rfl⟩:=HU.mp w1;rw[ej]at w2 w3;cases w2;cases w3;have hj:=pm j (Hc ej);exact⟨smn _ _ (tnew j hj),smn _ _ (tkey j hj)⟩
theorem Cw {H:Hp}{Q:VK}(h:td σ H λx H1=>∃(a:Addr) (ps:List (List Int×Int)),x=.ref a/\H1 a=some (.dT (ps.map λq=>(iW q.1,PR q.2)))/\ps.length<64/\
 ∀(d:Addr) (as qs:List Addr) (zs:List (List Int×Int)) H',H1 d=none->Same H1 H'->H' d=some (.lst (as.map PY))->as.length=zs.length->qs.length=zs.length->zs.Perm ps->zs.Pairwise (λy z=>HT.aY z.1 y.1=false)->
  (∀(i:Nat) a q z,as[i]? = some a->qs[i]? = some q->zs[i]? = some z->H' a=some (.tup [.ref q,.int z.2])/\H' q=some (.tup (z.1.map PR)))->Q (.ref d) H'):uO td σ H Q:=h
end
end L2
namespace HT
open PySem PyProof.Rows PySem.W L2
section
variable{prog:Program}{w:World}{A:Around}{E:Value->Shared->Prop}{s:Shared}
theorem stored{o:Obj}{es es1:Array (Int×Value)}{t t1:SetTable}(ho:h.get? a=some o)(hd:o.data=.set es ep t):(h.update a (Pl es1 t1)).get? a=some { o with data:=.set es1 (ep+1) t1 }:=by
 have:=IZ (Pl es1 t1) ho (by rw[putSet_of es1 t1 hd];rfl);rw[putSet_of es1 t1 hd]at this;exact this
end
section
variable{prog:Program}{w:World}{A:Around}{E:Value->Shared->Prop}{s:Shared}
end
section
variable{prog:Program}{w:World}{A:Around}{E:Value->Shared->Prop}{s:Shared}
end
section
variable{prog:Program}{w:World}{A:Around}{E:Value->Shared->Prop}{s:Shared}
theorem pp{k:Int}{v:Value}(h:(intKind prog w).is k v=true):∃k' tk,v=.int k' tk:=by
 cases v with
 | int i tk=>exact⟨i,tk,rfl⟩
 | _=>exact absurd h (by simp[intKind,Mp])
end
end HT
namespace L2
open PySem PySem.Spec PyProof.Rows PySem.W
section
variable{X:Cx}{e:Expr}{t:TA}{p p2 pos pos2:Pos}{pins:List (Addr×Obj)}{σ:St}{H:Hp}{s:Shared}
end
section
variable{X:Cx}
end
theorem Dq{H:Hp}{Q:VK}(h:∀p,H p=none->Q (.ref p) (upd H p (.dT []))):ut σ H Q:=h
theorem Dr{td ty tx:TE}{H:Hp}{Q:VK}(h:td σ H λx H1=>∃a,x=.ref a/\IsD H1 a/\ty σ H1 λy H2=>tx σ H2 λz H3=>∃o,DGet H3 a y o/\Q (o.getD z) H3):uu td ty tx σ H Q:=h
theorem EM{td ty tv:TE}{H:Hp}(h:tv σ H λv H1=>td σ H1 λx H2=>ty σ H2 λy H3=>∃a H4,x=.ref a/\DPut H3 a y v H4/\D.nx σ H4):zW td ty tv D σ H:=h
noncomputable abbrev dTf(q:List Int×Int):List Key×V:=(iW q.1,PR q.2)
def Cn(bs:List (List Int))(ps:List (List Int×Int)):Prop:=(ps.map (·.1)).Nodup/\(∀r,r∈ps.map (·.1)↔r∈bs)/\∀p∈ps,p.2=(bs.count p.1:Int)
theorem Cn.nil:Cn [] []:=⟨MI,λr=>by simp,λp h=>nomatch h⟩
theorem jV{r:List Int}:∀{ps:List (List Int×Int)},(r∉ps.map (·.1)->nC (ps.map dTf) (iW r)=none)/\∀n,(ps.map (·.1)).Nodup->(r,n)∈ps->nC (ps.map dTf) (iW r)=some (.int n)
 | []=>⟨λ_=>rfl,λn _ h=>nomatch h⟩
 | p::ps=>by
  have ih:=jV (r:=r) (ps:=ps);refine⟨λh=>?_,λn hn h=>?_⟩
  ·rw[Hg,gW (λe=>h (by rw[<-lX e];exact Hl ..))]
   exact ih.1 λz=>h (Hn _ z)
  ·rw[Hg,Iw]at hn
   rcases GW.mp h with e|e
   ·subst e;rw[Hg,jo rfl]
   ·have ne:¬(dTf p).1=iW r:=λz=>hn.1 (by rw[lX z];exact GX.mpr ⟨_,e,rfl⟩)
    rw[Hg,gW ne];exact ih.2 n hn.2 e
theorem Cn.step{bs:List (List Int)}{ps:List (List Int×Int)}(h:Cn bs ps)(r:List Int):∃(m:Int) (ps':List (List Int×Int)),(nC (ps.map dTf) (iW r)).getD (.int 0)=.int m/\lQ (ps.map dTf) (iW r) (.int (m+1))=ps'.map dTf/\Cn (bs++[r]) ps'/\ps'.length<=ps.length+1:=by
 obtain⟨h1,h2,h3⟩:=h;by_cases hr:r∈ps.map (·.1)
 ·obtain⟨⟨r',n⟩,hm,rfl⟩:=GX.mp hr
  have hv:=(jV (r:=r') (ps:=ps)).2 n h1 hm;refine⟨n,ps.map λp=>if p.1=r' then(p.1,n+1)else p,by rw[hv];rfl,?_,⟨?_,λq=>?_,λp hp=>?_⟩,by simp⟩
  ·unfold lQ
   rw[if_pos (by rw[jp,hv];rfl),Hv,Hv];apply HN;intro p hp;by_cases e:p.1=r'
   ·simp[Og,dTf,e]
   ·have:¬iW p.1=iW r':=λz=>e (lX z)
    simp[Og,dTf,e,this]
  ·have:(ps.map λp=>if p.1=r' then(p.1,n+1)else p).map (·.1)=ps.map (·.1):=by
    rw[Hv];apply HN;intro p _;show(if p.1=r' then(p.1,n+1)else p).1=p.1;split<;>rfl
   rw[this];exact h1
  ·have:(ps.map λp=>if p.1=r' then(p.1,n+1)else p).map (·.1)=ps.map (·.1):=by
    rw[Hv];apply HN;intro p _;show(if p.1=r' then(p.1,n+1)else p).1=p.1;split<;>rfl
   rw[this,h2 q,G9,G1];constructor
   ·exact .inl
   ·rintro(z|rfl)
    ·exact z
    ·exact(h2 _).mp hr
  ·obtain⟨p0,hp0,rfl⟩:=GX.mp hp
   have c0:=h3 p0 hp0;by_cases e:p0.1=r'
   ·have e5:=h3 _ hm
    simp only[e,if_true];have e6:n=(bs.count r':Int):=e5;rw[IK,LC,e6];lia
   ·rw[if_neg e,IK,c0]
    have:[r'].count p0.1=0:=ID.mpr (by simpa using e);rw[this];simp
 ·have hv:=(jV (r:=r) (ps:=ps)).1 hr
  have hb:r∉bs:=λz=>hr ((h2 r).mpr z)
  refine⟨0,ps++[(r,1)],by rw[hv];rfl,?_,⟨?_,λq=>?_,λp hp=>?_⟩,by simp⟩
  ·rw[xj _ hv,GM];rfl
  ·rw[GM,Nv]
   exact⟨h1,Iv _ _,λa ha b hb' e=>by
    have e2:b=r:=G1.mp hb';exact hr (by rw[<-e2,<-e];exact ha)⟩
  ·rw[GM,G9,h2 q,G9];exact Iff.rfl
  ·rcases G9.mp hp with z|z
   ·have ne:p.1≠r:=λe=>hr (by rw[<-e];exact GX.mpr ⟨p,z,rfl⟩)
    have:[r].count p.1=0:=ID.mpr (by simpa using ne);rw[IK,this,h3 p z];simp
   ·rw[G1.mp z]
    show(1:Int)=_
    rw[IK,LC,ID.mpr hb];rfl
def Bgs(bs:List (List Int))(zs:List (List Int×Int)):Prop:=(zs.map (·.1)).Pairwise (λa b=>HT.aY a b=true)/\(∀r,r∈zs.map (·.1)↔r∈bs)/\∀p∈zs,p.2=(bs.count p.1:Int)
theorem Cn.bgs{bs:List (List Int)}{ps zs:List (List Int×Int)}(h:Cn bs ps)(hp:zs.Perm ps)(hs:zs.Pairwise λy z=>HT.aY z.1 y.1=false):Bgs bs zs:=by
 have hm:(zs.map (·.1)).Perm (ps.map (·.1)):=hp.map _;refine⟨?_,λr=>by rw[hm.mem_iff,h.2.1 r],λp hq=>h.2.2 p (hp.mem_iff.mp hq)⟩;have nd:(zs.map (·.1)).Nodup:=hm.symm.nodup h.1;have hs':(zs.map (·.1)).Pairwise λy z=>HT.aY z y=false:=by rw[Km];exact hs
 refine(hs'.and nd).imp λ{a b} q=>?_
 cases e:HT.aY a b with
 | true=>rfl
 | false=>exact absurd (HT.jT a b e q.1) q.2
def EN(K:Frag)(P:Params)(d:Addr)(kfs:List (Str×Addr)):Prop:=
 ∃(ts:List Tok) (ep:Nat),ts.length=kfs.length/\K.lookup d=some ⟨.type "dict",none,.dict ((kfs.zip ts).map λp=>(⟨IE P p.1.1,.str p.1.1 p.2,.ref p.1.2⟩:Qs)).toArray ep,#[]⟩
def Gf(d:Addr)(kfs:List (Str×Addr)):R2:=λx y H Q=>∃z f,x=.ref d/\y=.str z/\kfs.lookup z=some f/\Q (.ref f) H
theorem qD{P:Params}{z:Str}{f:Addr}:∀(kfs:List (Str×Addr)) (ts:List Tok),ts.length=kfs.length->kfs.lookup z=some f->
  (((kfs.zip ts).map λp=>(⟨IE P p.1.1,.str p.1.1 p.2,.ref p.1.2⟩:Qs)).find? λe=>IL z e.key).map (·.val)=some (.ref f)
 | [],_,_,h=>by cases h
 | (y,g)::kfs,[],hl,_=>by cases hl
 | (y,g)::kfs,t::ts,hl,h=>by
  rw[IC,Hg,I0];rw[Jk]at h;by_cases e:z=y
  ·subst e
   rw[beq_self_eq_true]at h;cases h;have:IL z (K7 z t)=true:=by simp[IL]
   simp only[this];rfl
  ·rw[beq_false_of_ne e]at h
   have:IL z (K7 y t)=false:=by
    simp only[IL]
    first
     | exact beq_false_of_ne e
     | exact beq_false_of_ne (Hx e)
     | simpa using e
     | simpa using Hx e
   simp only[this];exact qD kfs ts (by simpa using hl) h
section
variable{X:Cx}
theorem Cy{kfs:List (Str×Addr)}(hd:EN X.K X.w.params d kfs):QIx X (Gf d kfs):=by
 refine⟨λvalue slice pins s σ H x y v u Q I rx ry h hs=>?_⟩;obtain⟨z,f,rfl,rfl,hl,q⟩:=h;cases rx;obtain⟨t,rfl⟩:=ry;obtain⟨ts,ep,hts,hK⟩:=hd;have ho:=I.kIn _ _ hK;have hm:s.heap.MapOf (Ks X.prog X.w) d (λk=>findBy (Ks X.prog X.w).is ((kfs.zip ts).map λp=>(⟨IE X.w.params p.1.1,.str p.1.1 p.2,.ref p.1.2⟩:Qs)).toArray k):=by
  refine⟨_,_,ep,ho,⟨rfl,rfl,rfl⟩,rfl,λe he=>?_,λ_=>rfl⟩;obtain⟨p,hp,rfl⟩:=GX.mp (List.mem_toArray.mp he);exact⟨p.1.1,by simp[Ks,IL],rfl⟩
 refine subscriptTail_builtinR (x:=.ref f) hm.typeIs slot_dict_getitem.lookup (wpAny_getItem_of (Q:=λr s'=>r=.ref f/\EP X pins σ Q r s') (knd:=Ks X.prog X.w) (k:=z) (by simp[Ks,IL]) hm (v:=.ref f) ?_ ⟨rfl,.ref f,H,I.tok _,rfl,q⟩) hs;show findBy _ _ _=_
 unfold findBy;rw[List.find?_toArray];exact qD kfs ts hts hl
def yE(R:V->Sp->Prop)(E:XK)(tf:TE)(t:TA):TE:=λσ H Q=>tf σ H λv H1=>∃sp,R v sp/\t σ H1 λvs H2=>sp vs H2 Q E
theorem qE{R:V->Sp->Prop}{E:XK}{tf:TE}{t:TA}{p:Pos}{es:List Expr}(hf:QE X (.Name x p) tf)
  (hR:∀v sp,R v sp->∃f fd ps CX k,v=.ref f/\FnOk X.prog X.w X.K X.mg X.base CX k f fd ps sp/\Room k X.A/\Jf X.K (.ref f)=true/\Binds X.K fd ps []/\kR CX X E)
  (ha:QA X (e::es) t) (hn:(e::es).all bQ=true:=by rfl):QE X (.Call (.Name x p) (e::es) [] pos) (yE R E tf t):=by
 rw[Kq,Iq]at hn;refine⟨λpins s σ H Q I h=>?_⟩;refine Qu (thn (hf.out pins s σ H _ I h) λu s1 hu=>?_);obtain⟨v,H1,I1,ru,sp,hr,q⟩:=hu;obtain⟨f,fd,ps,CX,k,rfl,F,hro,hk,hb,hx⟩:=hR v sp hr;cases ru;refine Na (h₀:=X.base) I1.ok.mod.kin hk (thn (ha.out pos pins s1 σ H1 _ I1 q) λus s2 hu=>?_) (aC hn.1) (gH hn.2);obtain⟨vs,H2,I2,r,q⟩:=hu;exact⟨I2.kIn,yk (dvs:=[]) (ds:=[]) F hro hb .nil hx I2 r (by rw[Ic];exact q)⟩
theorem Ds{R:V->Sp->Prop}{E:XK}{tf:TE}{t:TA}{H:Hp}{Q:VK}(h:tf σ H λv H1=>∃sp,R v sp/\t σ H1 λvs H2=>sp vs H2 Q E):yE R E tf t σ H Q:=h
variable{o e:Expr}{to:TE}{t:TA}{apos cpos:Pos}
end
section
variable{X:Cx}{pins:List (Addr×Obj)}{σ:St}{H:Hp}{s:Shared}
variable{N frs:List Str}{x qual:Str}{ix:List Nat}{scope:Scope}{cl:List (Str×Addr)}{params:Arguments}{body:Expr}
section
variable{te:TE}{t:TA}{p pos kpos lpos:Pos}{e:Expr}{k:Nat}{cc P:Addr}
end
end
end L2
namespace L2
open PySem PySem.Spec PyProof.Rows
section
variable{qs:List (Nat×Nat)}{b:Nat}{st:HW}
end
noncomputable def wb(c:Nat)(xs:List (List Nat)):List Nat:=xs.map λr=>r.getD c 0
theorem block(c:Nat):∀{ys:List (List Nat)}(_:(wb c ys).Pairwise (·<=·)) (g:Nat),(ys.drop (bG (wb c ys) g)).take ((wb c ys).count g)=ys.filter λr=>decide (r.getD c 0=g)
 | [],_,g=>by simp
 | r::ys,h,g=>by
  have h':(r.getD c 0::wb c ys).Pairwise (·<=·):=h;rw[Jx]at h';have ih:=block c h'.2 g;have e1:wb c (r::ys)=r.getD c 0::wb c ys:=rfl;rw[e1,List.filter_cons];generalize hf:r.getD c 0=f at h';have hl:bG (f::wb c ys) g=(if f<g then 1 else 0)+bG (wb c ys) g:=by
   unfold bG;rw[LQ];by_cases q:f<g
   ·rw[if_pos (by simpa using q),if_pos q];lia
   ·rw[if_neg (by simpa using q),if_neg q];lia
  rcases Ij f g with q|q|q
  ·rw[hl,if_pos q,if_neg (by simpa using GV q),List.count_cons_of_ne (by simpa using GV q),OP 1,M8]
   exact ih
  ·subst q
   have z:bG (wb c ys) f=0:=by
    unfold bG;rw[M3];intro x hx;have:=h'.1 x hx;simpa using this
   rw[z]at ih;rw[hl,if_neg (Hw _),z,if_pos (by simp),List.count_cons_self,Ht,KW];rw[Ht]at ih;rw[ih]
  ·have z:(f::wb c ys).count g=0:=by
    rw[ID];intro hx;rcases GW.mp hx with e|e
    ·lia
    ·have:=h'.1 g e;lia
   rw[z,MN,if_neg (by simpa using Ho q)];symm;rw[List.filter_eq_nil_iff];intro x hx;have:=h'.1 (x.getD c 0) (GX.mpr ⟨x,hx,rfl⟩);simp only[decide_eq_true_eq];lia
section
variable{X:Cx}{o e f:Expr}{td ty tx:TE}{pos apos cpos p:Pos}
end
section
variable{X:Cx}{o tg:Expr}{td:TE}{pos apos cpos p:Pos}
end
end L2
namespace HT
open PySem PyProof.Rows PySem.W L2
section
variable{prog:Program}{w:World}{A:Around}{E:Value->Shared->Prop}{s:Shared}
theorem uQ:typeLookup (.type "list") "keys" = pure none:=by rw[typeLookup_type,builtinLookup_eq_fast];kernel_rfl
theorem Ag {o:Obj}{xs:Array Value}{k:Nat}{Q:Option Value->Shared->Prop}(hx:s.heap.get? a=some o) (hc:o.cls=.type "list") (hdat:o.data=.seq xs k) (hd:o.dict=none) (hA:A.handled=none)
  (h:∀h' tk e,Heap.NewExcOf s.heap h' e "AttributeError"->Q none { s with heap:=h',toks:=tk }):wpAny (model prog w) A (getAttr? (.ref a) "keys") Q E s:=by
 obtain⟨c,dct,dat,sl⟩:=o;simp only at hc hdat hd;subst hc hdat hd;obtain⟨hp,g,d,tk,os⟩:=s;have hT:∀tk',(⟨hp,g,d,tk',os⟩:Shared).TypeIs (.ref a) "list":=λ_=>⟨_,hx,rfl⟩
 have f1:=sub_AttributeError;have f3:=Jy.lookup;have f4:=Jy.bind (.ref a);have f5:=am_list_getattr_none;unfold getAttr? getAttrBy? getAttrBy
 repeat (any_goals (first | assumption | exact hT _ | ((with_reducible show wpAny _ _ (call (Value.builtin "list.__getattribute__") _ _) _ _ _);refine QU Jy (hT _) am_entry_list_getattribute (PySem.F.args_list_getattribute_2 _ _) (meets_getattribute_miss_list a xs k sl "keys" _ uQ (by decide)) ⟨hx,hA,λh' tk' e hx'=>?_⟩) | wp_step))
 obtain⟨t',u',he⟩:=hx'.there;show wpAny _ _ (getattributeRaised _ _ _ _ _ _ _) _ _ _
 unfold getattributeRaised
 repeat (any_goals (first|assumption|wp_step))
 exact h _ _ _ hx'.of
theorem nK:entryFor table "dict.update.loop" = some Builtin.«dict.update.loop»:=entryFor_of_tree (by kernel_rfl)
theorem g6:plainId "dict.update.loop" = true:=by decide +kernel
theorem rO{k v:Value}{Q:List Value->Shared->Prop}(hp:s.heap.IsTuple p #[k,v])(h:Q [k,v] s):wpAny (model prog w) A (MB (.ref p)) Q E s:=by
 obtain⟨o,ho,hc,n,hd⟩:=hp;unfold MB;refine P2 (QF ⟨o,ho,hc⟩ ?_);rw[if_pos (by decide)];exact P2 (wpAny_seqItems ho hd (P3 h))
theorem xC{R:Result->Shared->Prop}{I:Addr}{wr:List Addr}{P:Nat->Value->Prop}{St:Nat->Heap->Prop}{rs:List (Key×Value)}{pa:Nat->Addr}(W:Walks prog w A.in1 I fp wr n P St)(hSf:S∉fp)(hn:rs.length=n)(hb:n<=P4)(hv:∀i v,P i v->v=.ref (pa i)):
  ∀(k i:Nat) (s:Shared),n - i=k->i<=n->St i s.heap->(∀j,j<n->pa j≠S/\pa j∉wr/\∃ku,(aO prog w).is (rs.getD j (.inl 0,.none)).1 ku=true/\s.heap.IsTuple (pa j) #[ku,(rs.getD j (.inl 0,.none)).2])->
   s.heap.DictOf (aO prog w) S (merged [] (rs.take i))->
   (∀g tk,(∀b o,b≠S->b∉wr->s.heap.get? b=some o->g.get? b=some o)->g.DictOf (aO prog w) S (merged [] rs)->R (.ok (.ret .none)) { s with heap:=g,toks:=tk })->
   codeAny (model prog w) A (.builtin "dict.update.loop" ⟨[.ref S,.ref I,Qp i,.none],[]⟩) R s:=by
 have hSw:S∉wr:=λz=>hSf (W.sub _ z)
 have at':∀{h g:Heap}{kvs:List (Key×Value)},h.DictOf (aO prog w) S kvs->(∀o,h.get? S=some o->g.get? S=some o)->g.DictOf (aO prog w) S kvs:=λx e=>let⟨o,es,ep,ho,r⟩:=x;⟨o,es,ep,e _ ho,r⟩
 intro k
 induction k with
 | zero=>
  intro i s hk hi hst hT hS hR;have hin:i=n:=by lia
  subst hin;refine Qd nK ?_;rw[HS g6 _];show wpAny _ A.in1 (pyNext (.ref I) >>= _) _ _ s
  refine P2 (W.done s _ _ hst λg tk kp=>?_);rw[GJ ⋯]at hS;exact P2 (P3 (P3 (hR g tk (λb o _ q e=>kp b o q e) (at' hS λo e=>kp S o hSw e))))
 | succ k ih=>
  intro i s hk hi hst hT hS hR;have hlt:i<n:=by lia
  refine Qd nK ?_;rw[HS g6 _];show wpAny _ A.in1 (pyNext (.ref I) >>= _) _ _ s
  refine P2 (W.item i s _ _ hlt hst λv g tk hP st1 kp=>?_);obtain rfl:=hv i v hP;obtain⟨p1,p2,ku,p3,p4⟩:=hT i hlt;have hS1:=at' hS λo e=>kp S o hSw e
  have tup:∀{g':Heap}{x:Addr}{vs:Array Value},s.heap.IsTuple x vs->(∀o,s.heap.get? x=some o->g'.get? x=some o)->g'.IsTuple x vs:=λy e=>let⟨o,ho,r⟩:=y;⟨o,e _ ho,r⟩
  have p4g:g.IsTuple (pa i) #[ku,(rs.getD i (.inl 0,.none)).2]:=tup p4 λo e=>kp _ o p2 e
  refine P2 (P7 ?_);refine P2 (wpAny_tryCatch (rO (s:={ s with heap:=g,toks:=tk }) p4g ?_));have hget:rs[i]? = some (rs.getD i (.inl 0,.none)):=by rw[GB,Gz ⋯];rfl
  have hsz:(merged [] (rs.take i)).length<=P4:=by
   have:=merged_length_le ([]:List (Key×Value)) (rs.take i);rw[G5]at this;simp only[Ie]at this;lia
  refine P7 (wpAny_dictSet_pairs (hsz:=hsz) (s:={ s with heap:=g,toks:=tk }) p3 hS1 λg2 hS2 sb=>?_);rw[<-merged_take_succ [] rs i _ hget]at hS2;refine P3 ⟨Qe g6 _,ih (i+1) _ ⋯ hlt (W.frame _ _ _ st1 λc hc o e=>?_) (λj hj=>?_) hS2 λg3 tk3 k3 hS3=>?_⟩
  ·exact(sb.2 c (λz=>hSf (z▸hc))).trans e
  ·obtain⟨q1,q2,kj,q3,q4⟩:=hT j hj
   exact⟨q1,q2,kj,q3,tup q4 λo e=>(sb.2 _ q1).trans (kp _ o q2 e)⟩
  ·exact hR g3 tk3 (λc o q1 q2 e=>k3 c o q1 q2 ((sb.2 c q1).trans (kp c o q2 e))) hS3
theorem rP{rs:List (Key×Value)}{pa:Nat->Addr}(hh:A.handled=none)(hl:s.heap.IsList l its.toArray)(hdn:∀o,s.heap.get? l=some o->o.dict=none)(hv:∀(i:Nat) v,its[i]? = some v->v=.ref (pa i))(hn:rs.length=its.length)(hb:its.length<=P4)
  (hT:∀j,j<its.length->∃ku,(aO prog w).is (rs.getD j (.inl 0,.none)).1 ku=true/\s.heap.IsTuple (pa j) #[ku,(rs.getD j (.inl 0,.none)).2])
  (h:∀g tk,g.DictOf (aO prog w) s.heap.objs.size (merged [] rs)->(∀b o,s.heap.get? b=some o->g.get? b=some o)->Q (.ref s.heap.objs.size) { s with heap:=g,toks:=tk }) :
  wpAny (model prog w) A (call (.type "dict") [.ref l]) Q E s:=by
 refine callType_codes (Q₁:=λobj s₁=>obj=.ref s.heap.objs.size/\s₁={ s with heap:=s.heap.push { cls:=.type "dict",data:=.dict #[] } }) PySem.F.kt_called_dict (PySem.F.kt_typeCall_dict_1 _) PySem.F.entry_dict_init (kt_code_dict_new _ ⟨rfl,rfl⟩) ?_;rintro obj s₁ ⟨rfl,rfl⟩;have hnew:(s.heap.push { cls:=.type "dict",data:=.dict #[] }).DictOf (aO prog w) s.heap.objs.size []:=PK s.heap;refine⟨hnew.typeIs,PySem.F.args_dict_init_2 _ _,?_⟩;obtain⟨ol,hol,hcl,nl,hdl⟩:=id hl;have hol1:(s.heap.push { cls:=.type "dict",data:=.dict #[] }).get? l=some ol:=GD _ hol;have hlS:l<s.heap.objs.size:=GK hol;unfold Builtin.«dict.__init__»;refine P2 ?_;unfold OZ;refine P2 (wpAny_notOrdered_dict hnew.typeIs ?_);show wpAny _ _ (pure (s.heap.objs.size,[Hb l])) _ _ _
 refine P3 ?_;show wpAny _ _ (Mf "dict.__init__" s.heap.objs.size (.ref l) [] .none) _ _ _
 unfold Mf;refine P2 (QF (T:="list") ⟨ol,hol1,hcl⟩ ?_);rw[if_pos (by decide)];refine P2 (Ag (s:={ s with heap:=s.heap.push { cls:=.type "dict",data:=.dict #[] } }) hol1 hcl hdl (hdn ol hol) hh λh1 tk1 e1 x1=>?_);rw[if_pos (show(none:Option Value).isNone=true from rfl)];have kp1:∀b o,s.heap.get? b=some o->h1.get? b=some o:=λb o e=>x1.keeps b o (GD _ e)
 have hl1:h1.IsList l its.toArray:=⟨ol,kp1 _ _ hol,hcl,nl,hdl⟩;have hS1:h1.DictOf (aO prog w) s.heap.objs.size []:=let⟨o,es,ep,ho,r⟩:=hnew;⟨o,es,ep,x1.keeps _ _ ho,r⟩;have hSl:s.heap.objs.size<h1.objs.size:=let⟨o,_,_,ho,_⟩:=hS1;GK ho;have hll:l<h1.objs.size:=GK (kp1 _ _ hol);refine P2 (wpAny_rule ?_);refine P2 (wpAny_pyIter_list (s:={ s with heap:=h1,toks:=tk1 }) hl1 (P3 ⟨Qe g6 _,?_⟩));have hh3:A.in1.in1.handled=none:=by simp[hh]
 have ez:its.toArray.size=its.length:=GO ..;have hSf:s.heap.objs.size∉[h1.objs.size,l]:=by
  intro z;simp only[GW,Hy,or_false]at z;rcases z with z|z
  ·exact absurd z (GV hSl)
  ·exact absurd z (Ho hlS)
 refine xC (pa:=pa) (rs:=rs) (Pk hh3 _ l (GV hll) its.toArray) hSf (by rw[hn,ez]) (by rw[ez];exact hb) (λi v e=>hv i v (by simpa using e)) (its.toArray.size - 0) 0 _ ⋯ (GR _) ⟨⟨_,GT _ rfl,rfl,rfl⟩,hl1.push _⟩ (λj hj=>?_) ?_ λg tk kp hG=>⟨rfl,h g tk hG λb o e=>?_⟩
 ·rw[ez]at hj
  obtain⟨ku,k1,o,ho,k2⟩:=hT j hj;have hlt:=GK ho;refine⟨GV hlt,λz=>?_,ku,k1,o,GD _ (kp1 _ _ ho),k2⟩;have e0:pa j=h1.objs.size:=by simpa using z
  rw[e0]at hlt;exact absurd hlt (Pn.mpr (HK hSl))
 ·obtain⟨o,es,ep,ho,r⟩:=hS1
  exact⟨o,es,ep,GD _ ho,r⟩
 ·have hlt:=GK e
  exact kp b o (GV hlt) (λz=>absurd ((by simpa using z:b=h1.objs.size)▸hlt) (Pn.mpr (HK hSl))) (GD _ (kp1 _ _ e))
end
end HT
namespace L2
open PySem PySem.Spec PyProof.Rows
section
variable{X:Cx}
def yF(K:GC):List V->Hp->VK->Prop:=λxs H Q=>∃(l:Addr) (ps:List Addr) (kvs:List (Key×V)),xs=[.ref l]/\H l=some (.lst (ps.map PY))/\ps.length=kvs.length/\(∀(i:Nat) p kv,ps[i]? = some p->kvs[i]? = some kv->H p=some (.tup [kV kv.1,kv.2]))/\∀d,H d=none->Q (.ref d) (upd H d (.dK (nE [] kvs)))
theorem qF {K:GC}(hc:X.calm=true) (hK:X.K=K:=by rfl):QC X (.type "dict") (yF K):=by
 refine⟨λpins s σ H xs us Q I r h=>?_⟩;obtain⟨l,ps,kvs,rfl,hl,hlen,hp,q⟩:=h;obtain⟨u,rfl,ru⟩:=gD r;cases ru;obtain⟨hz,its,n,rv,e1⟩:=(show ObjOk X.prog X.w H s.heap l (.lst (ps.map PY))from I.hok l _ hl);have hil:its.length=kvs.length:=by have:=rv.length;rw[GA]at this;lia
 have hit:∀(i:Nat) v,its[i]? = some v->v=.ref (ps.getD i 0):=λi v e=>by
  have hi:=(GQ.mp e).1;have hip:i<ps.length:=by lia
  have e2:(ps.map PY)[i]? = some (PY ps[i]):=by rw[GE,Gz hip];rfl
  obtain⟨u,hu,ru⟩:=rv.get e2;rw[e]at hu;cases hu;rw[GB,Gz hip];exact ru
 have jq:∀i:Nat,∃z:Key×Value,i<kvs.length->(∃ku,(aO X.prog X.w).is z.1 ku=true/\s.heap.IsTuple (ps.getD i 0) #[ku,z.2])/\∀kv,kvs[i]? = some kv->kv.1=z.1/\RelV kv.2 z.2:=λi=>by
  by_cases hi:i<kvs.length
  ·have hip:i<ps.length:=by lia
   obtain⟨_,its2,rv2,pt⟩:=(show ObjOk X.prog X.w H s.heap ps[i] (.tup [kV kvs[i].1,kvs[i].2])from I.hok _ _ (hp i _ _ (Gz hip) (Gz hi)));cases rv2 with
   | cons r1 rr=>
    cases rr with
    | cons r2 rr=>
     cases rr;rename_i ku vu;refine⟨(kvs[i].1,vu),λ_=>⟨⟨ku,uk r1,?_⟩,λkv e=>?_⟩⟩
     ·rw[GB,Gz hip]
      exact pt
     ·rw[Gz hi]at e
      cases e;exact⟨rfl,r2⟩
  ·exact⟨(.inl 0,.none),λz=>absurd z hi⟩
 obtain⟨rs,hrl,hrs⟩:∃rs:List (Key×Value),rs.length=kvs.length/\∀i,i<kvs.length->(∃ku,(aO X.prog X.w).is (rs.getD i (.inl 0,.none)).1 ku=true/\s.heap.IsTuple (ps.getD i 0) #[ku,(rs.getD i (.inl 0,.none)).2])/\∀kv,kvs[i]? = some kv->kv.1=(rs.getD i (.inl 0,.none)).1/\RelV kv.2 (rs.getD i (.inl 0,.none)).2:=by
  refine⟨(GH kvs.length).map λi=>(jq i).choose,by rw[GA,HH],λi hi=>?_⟩;have e:((GH kvs.length).map λi=>(jq i).choose).getD i (.inl 0,.none)=(jq i).choose:=by
   rw[GB,GE,Hu hi];rfl
  rw[e];exact(jq i).choose_spec hi
 have rel:KV kvs rs:=by
  have go:∀(as:List (Key×V)) (bs:List (Key×Value)),as.length=bs.length->(∀(i:Nat) a b,as[i]? = some a->bs[i]? = some b->a.1=b.1/\RelV a.2 b.2)->KV as bs:=by
   intro as
   induction as with
   | nil=>intro bs h _;cases bs with
    | nil=>exact .nil
    | cons b bs=>cases h
   | cons a as ih=>
    intro bs h g;cases bs with
    | nil=>cases h
    | cons b bs=>exact .cons (g 0 a b rfl rfl) (ih bs (by simpa using h) λi x y e1 e2=>g (i+1) x y e1 e2)
  refine go kvs rs hrl.symm λi a b e1 e2=>?_
  have hi:=(GQ.mp e1).1;have:=(hrs i hi).2 a e1;rw[GB,e2]at this;exact this
 refine HT.rP (pa:=λi=>ps.getD i 0) (rs:=rs) (I.ok.hd hc) ⟨_,e1,rfl,n,rfl⟩ (λo e=>by rw[e1]at e;cases e;rfl) hit ⋯ (by have:=rv.length;lia) (λj hj=>(hrs j ⋯).1) λg tk hG kp=>?_
 have hm:=KV.merge rel (Paired.nil:KV [] []);refine⟨.ref s.heap.objs.size,_,I.laid (t':=tk) (o:=.dK (nE [] kvs)) kp (GF _) (yC ?_ ?_ hm hG),rfl,q _ (I.hok.fresh (GF _))⟩
 ·have:=gX kvs []
  have:=rv.length;rw[GA]at this;simp only[Ie]at *;rw[GA]at hz;lia
 ·have:=I.big
  exact beq_eq_false_iff_ne.mpr (Ho this)
end
section
variable{X:Cx}{N tgs frs:List Str}{ix:List Nat}{scope:Scope}{cl:List (Str×Addr)}{xc:Str}
end
end L2
namespace HT
open PySem PyProof.Rows PySem.W L2
section
variable{prog:Program}{w:World}{A:Around}{E:Value->Shared->Prop}{h:Heap}{g:Array GenState}{d:Drawn}{t:Nat}{os:OsState}
variable{nm q:Str}{C N f:Addr}{bs bm bmB:List Value}{hdct:Bool}{sn:List Str}{sub:List Value}{ab:Bool}{col:Option Bool}{dd:Option Addr}{k0 k1 k2 k3 k5:Option Value}{B Bn newId nid initId inN:String}{bmN:List Value}
end
section
variable{M:Model}{A:Around}{E:Value->Shared->Prop}{env:Env}
variable{nm q:Str}{C N:Addr}{bs bm:List Value}{hdct:Bool}{sn:List Str}{sub:List Value}{ab:Bool}{col:Option Bool}{dd:Option Addr}{k0 k1 k2 k3 k5:Option Value}{newId:String}
end
end HT
namespace L2
open PySem PySem.Spec PyProof.Rows
section
variable{P:Program}{w:World}{K:GC}{mg:Str->Option Value}{base:Heap}{N:List Str}{qual:Str}{scope:Scope}{f:Addr}{cd:Value}{A:Around}{outer:List Env}{s0:Shared}{H0:Hp}{E:XK}
end
end L2
namespace HT
open PySem PyProof.Rows PySem.W L2
section
variable{prog:Program}{w:World}{A:Around}{E:Value->Shared->Prop}{h:Heap}{g:Array GenState}{d:Drawn}{t:Nat}{os:OsState}
variable{C f e t0:Addr}{K:Frag}{dx:Option Addr}{u:Value}
end
end HT
namespace L2
open PySem PySem.Spec PyProof.Rows PySem.W
section
variable{X:Cx}{o value e:Expr}{es:List Expr}{f x:Str}{pos pos' apos np:Pos}{ta tv:TE}{t:TA}{S:Addr}
end
section
variable{X:Cx}{pins:List (Addr×Obj)}{σ:St}{H:Hp}{s:Shared}
end
section
variable{X:Cx}{e:Expr}{es:List Expr}{t:TA}{np cpos pos p:Pos}{x:Str}{C f:Addr}
end
end L2
namespace HT
open PySem PyProof.Rows PySem.W L2
end HT
namespace L2
open PySem PySem.Spec PyProof.Rows PySem.W
section
variable{D:Ends}{Ex:XW}{σ:St}{H:Hp}{Q:VK}{K:Frag}{C:Addr}{t:TA}{ta tv:TE}{f:Str}{sp:Sp}{E:XK}
end
end L2
namespace L2
open PySem PySem.Spec PyProof.Rows
section
variable{X:Cx}
end
end L2
namespace L2
open PySem PySem.Spec PyProof.Rows PySem.Builtin PySem.Builtin.Str
section
variable{X:Cx}
variable{o e a b:Expr}{rest:List Expr}{to ta tb:TE}{t:TA}{apos cpos pos:Pos}
end
section
variable{P:Program}{w:World}{K:GC}{mg:Str->Option Value}{base:Heap}
end
end L2
namespace HT
open PySem PyProof.Rows PySem.W L2
noncomputable def adv(m:Nat)(p:Ki):Ki:=
 if p.more > 0 then{ j:=p.j+1,more:=p.more - 1,i:=p.i,perturb:=p.perturb,dummy:=p.dummy }
 else{ j:=(Kt m p.i p.perturb).1,more:=NZ m (Kt m p.i p.perturb).1 - (Kt m p.i p.perturb).1,i:=(Kt m p.i p.perturb).1,perturb:=(Kt m p.i p.perturb).2,dummy:=p.dummy }
noncomputable def trl(m:Nat)(p:Ki):Nat->Ki
 | 0=>p
 | k+1=>trl m (adv m p) k
noncomputable def start(m:Nat)(h:Int):Ki:={ j:=Ku h % (m+1),more:=NZ m (Ku h % (m+1)) - Ku h % (m+1),i:=Ku h % (m+1),perturb:=Ku h,dummy:=none }
section
variable{prog:Program}{w:World}{A:Around}{E:Value->Shared->Prop}{s:Shared}
theorem items_int{ks:List Int}(h:ItemsAre (intKind prog w) ks vs):∀v∈vs,∃k t,v=.int k t:=by
 induction h with
 | nil=>intro v hv;cases hv
 | cons h _ ih=>
  intro v hv;rcases GW.mp hv with q|q
  ·rw[q];exact pp h
  ·exact ih v q
end
section
variable{prog:Program}{w:World}{A:Around}{E:Value->Shared->Prop}{s:Shared}
end
section
variable{prog:Program}{w:World}{A:Around}{E:Value->Shared->Prop}{s:Shared}
end
section
variable{prog:Program}{w:World}{A:Around}{E:Value->Shared->Prop}{s:Shared}
end
end HT
namespace L2
open PySem PySem.Spec PyProof.Rows PySem.W
section
variable{X:Cx}{e:Expr}{t:TA}{p p2 pos pos2:Pos}{pins:List (Addr×Obj)}{σ:St}{H:Hp}{s:Shared}
end
end L2
namespace L2
open PySem PySem.Spec PyProof.Rows
end L2
namespace L2
open PySem PySem.Spec PyProof.Rows PySem.W
section
variable{X:Cx}{e o:Expr}{to te:TE}{t:TA}{pos apos cpos:Pos}
end
end L2
set_option maxHeartbeats 0
namespace Fs
open PySem PySem.Spec PyProof.Rows L2
local macro_rules
 | `(tactic| walk_at "s")=>`(tactic| exact ⟨rfl,rfl,rfl,by decide +kernel,rfl,by decide +kernel,by decide +kernel⟩)
local macro_rules
 | `(tactic| nofun)=>do
  let q ←("Fe Ff Ea Fg Eb Ec FO Fh Ed Gw Fi FQ Fj Gx FR FS FT Dg Ek Dh Fp En Fq Fr Di Dj Gy Fk Fl Ft Eo Dk Ep FU Ef Fm Eg Fn Fo FP lA FX FY Er Eu Fx Dp FD Ez Dm FA FB Ga Ew B5 Dl Fz EA EE EG EF FZ cr EK EL Dq Dr EM Cw Ds".splitOn " ").foldrM (fun n (a:Lean.TSyntax `tactic)=>`(tactic| first | (with_reducible refine $(Lean.mkIdent (PB n)) ?_) | $a:tactic)) (←`(tactic| fail))
  `(tactic| (repeat (first | $q:tactic|(with_reducible refine z7 ?_;dsimp only[HV])|(with_reducible refine wF ?_;dsimp only[HV])|((with_reducible show Dy _ _ _ _);refine⟨_,rfl,?_⟩)|(with_reducible refine Ee ?c ?_;(case c=>first|(show(0:Int)<_;omega)|exact Eh (by omega) (by omega)|exact FV (by omega) (by omega)|exact Ei (by omega) (by omega) (by omega)|exact Ej (by omega) (by omega)|exact BK (by omega) (by omega)|exact FW (by decide) (by decide) (by decide)))|(with_reducible refine BJ (by first|assumption|exact aa) ?_;refine⟨_,rfl,?_⟩)|(with_reducible refine zy (by first|assumption|exact aa) ?_;refine⟨_,rfl,?_⟩)|(with_reducible refine zz (by first|assumption|exact aa) ?_;refine⟨_,rfl,?_⟩;dsimp only[Int.reduceToNat,HV])|(with_reducible refine zH ?_;dsimp only[HV])|((with_reducible show DK _ _ _ _ _ _);refine⟨_,rfl,?_⟩))))
def top(i:Nat):Stmt:=G7.main.body.getD i (.Pass ⟨0,0,0,0⟩)
noncomputable abbrev dq:Stmt:=top 5
noncomputable abbrev jW:Stmt:=top 6
noncomputable abbrev cy:Stmt:=top 9
noncomputable abbrev du:Stmt:=top 10
noncomputable abbrev cR:Stmt:=top 11
noncomputable abbrev ee:Stmt:=top 12
noncomputable abbrev iC:Stmt:=top 13
noncomputable abbrev gh:Stmt:=top 14
noncomputable abbrev jX:Stmt:=top 15
noncomputable abbrev iD:Stmt:=top 17
noncomputable abbrev ef:Stmt:=top 18
noncomputable abbrev iE:Stmt:=top 19
noncomputable abbrev Ai:Stmt:=top 20
noncomputable abbrev fh:Stmt:=top 21
noncomputable abbrev lZ:Stmt:=top 23
noncomputable abbrev l6:Stmt:=top 24
noncomputable abbrev dv:Stmt:=top 25
noncomputable abbrev pq:Stmt:=top 26
noncomputable abbrev fi:Stmt:=top 27
noncomputable abbrev gi:Stmt:=top 28
noncomputable abbrev ce:Stmt:=top 29
noncomputable abbrev iF:Stmt:=top 31
noncomputable abbrev fj:Stmt:=top 32
noncomputable abbrev cz:Stmt:=top 33
noncomputable abbrev cA:Stmt:=top 34
noncomputable abbrev gj:Stmt:=top 36
noncomputable abbrev cS:Stmt:=top 37
noncomputable abbrev uR:Stmt:=top 39
noncomputable abbrev l7:Stmt:=top 40
noncomputable abbrev cT:Stmt:=top 41
noncomputable abbrev cU:Stmt:=top 42
noncomputable abbrev cV:Stmt:=top 43
noncomputable abbrev jY:Stmt:=top 44
noncomputable abbrev fk:Stmt:=top 46
noncomputable abbrev eh:Stmt:=top 47
noncomputable abbrev fm:Stmt:=top 48
noncomputable abbrev gl:Stmt:=top 49
noncomputable abbrev fq:Stmt:=top 50
noncomputable abbrev gm:Stmt:=top 51
noncomputable abbrev en:Stmt:=top 55
noncomputable abbrev jZ:Stmt:=top 56
noncomputable abbrev uS:Stmt:=top 58
noncomputable abbrev uT:Stmt:=top 59
noncomputable abbrev uU:Stmt:=top 60
noncomputable abbrev uV:Stmt:=top 61
noncomputable abbrev pr:Stmt:=top 62
noncomputable abbrev l8:Stmt:=top 63
noncomputable abbrev Aj:Stmt:=top 64
noncomputable abbrev uW:Stmt:=top 65
noncomputable abbrev j0:Stmt:=top 66
noncomputable abbrev l9:Stmt:=top 67
noncomputable abbrev md:Stmt:=top 68
noncomputable abbrev rQ:Stmt:=top 69
set_option genSizeOfSpec false in
set_option genInjectivity false in
structure Ad where
 dE:Addr
 dB:FuncData
 ky:Addr
 ko:FuncData
 cG:Addr
 cD:FuncData
 dC:Addr
 dz:FuncData
 de:Addr
 c8:FuncData
 eQ:Addr
 eL:FuncData
 iR:Addr
 iN:FuncData
 gy:Addr
 gv:FuncData
 kA:Addr
 kr:FuncData
 iO:Addr
 iK:FuncData
 eO:Addr
 eG:FuncData
 iP:Addr
 iL:FuncData
 AT:Addr
 AQ:FuncData
 fL:Addr
 dk:FuncData
 mM:Addr
 mG:FuncData
 mL:Addr
 mF:FuncData
 dD:Addr
 dA:FuncData
 pP:Addr
 pN:FuncData
 fJ:Addr
 fE:FuncData
 gx:Addr
 gr:FuncData
 cj:Addr
 cg:FuncData
 iQ:Addr
 iM:FuncData
 fK:Addr
 fG:FuncData
 cH:Addr
 cE:FuncData
 cF:Addr
 cC:FuncData
 gw:Addr
 gq:FuncData
 c9:Addr
 cY:FuncData
 vS:Addr
 vM:FuncData
 mO:Addr
 mI:FuncData
 db:Addr
 c6:FuncData
 dc:Addr
 c7:FuncData
 da:Addr
 cZ:FuncData
 kx:Addr
 kn:FuncData
 cu:Addr
 fH:FuncData
 bW:Addr
 eJ:FuncData
 cw:Addr
 fI:FuncData
 ci:Addr
 gs:FuncData
 bP:Addr
 fF:FuncData
 ck:Addr
 gu:FuncData
 eP:Addr
 eK:FuncData
 kz:Addr
 kq:FuncData
 vT:Addr
 vN:FuncData
 vP:Addr
 vJ:FuncData
 vR:Addr
 vL:FuncData
 vO:Addr
 vI:FuncData
 pO:Addr
 pM:FuncData
 mP:Addr
 mJ:FuncData
 AR:Addr
 AN:FuncData
 vQ:Addr
 vK:FuncData
 kB:Addr
 kw:FuncData
 mN:Addr
 mH:FuncData
 mQ:Addr
 mK:FuncData
 AS:Addr
 AO:FuncData
 cc:Addr
 pt:Addr
 bs:Heap
 wd:World
 lr:Addr
 iJ:Addr
 i4:Addr
 gz:Tok
structure Tx (K:GC) (mg:Str->Option Value) (t:Ad):Prop where
 fX:mg "many_figures" = some (.ref t.dE)
 dw:Fun K "many_figures" "many_figures" dq t.dE t.dB
 fW:Binds K t.dB ["n","base"] []
 ot:mg "figures" = some (.ref t.ky)
 j9:Fun K "figures" "figures" jW t.ky t.ko
 oi:Binds K t.ko ["n","base","many"] []
 eY:mg "common_measure" = some (.ref t.cG)
 cB:Fun K "common_measure" "common_measure" cy t.cG t.cD
 eX:Binds K t.cD ["one","other"] []
 dF:mg "least_bottom" = some (.ref t.dC)
 cm:Fun K "least_bottom" "least_bottom" du t.dC t.dz
 dy:Binds K t.dz ["parts"] []
 kF:mg "whole_numbers" = some (.ref t.de)
 fB:Fun K "whole_numbers" "whole_numbers" cR t.de t.c8
 km:Binds K t.c8 ["parts"] []
 ii:mg "number_rows" = some (.ref t.eQ)
 eF:Fun K "number_rows" "number_rows" ee t.eQ t.eL
 ie:Binds K t.eL ["numbers","base"] []
 lv:mg "text_row" = some (.ref t.iR)
 iI:Fun K "text_row" "text_row" iC t.iR t.iN
 lu:Binds K t.iN ["text","columns"] []
 pS:mg "text_rows" = some (.ref t.gy)
 ke:Fun K "text_rows" "text_rows" gh t.gy t.gv
 pL:Binds K t.gv ["texts"] []
 fN:mg "spelled" = some (.ref t.kA)
 dQ:Fun K "spelled" "spelled" jX t.kA t.kr
 fD:Binds K t.kr ["kind","keys","base"] []
 r9:mg "is_order" = some (.ref t.iO)
 ln:Fun K "is_order" "is_order" iD t.iO t.iK
 rX:Binds K t.iK ["thing"] []
 mR:mg "check_order" = some (.ref t.eO)
 hZ:Fun K "check_order" "check_order" ef t.eO t.eG
 mD:Binds K t.eG ["thing","many"] []
 sd:mg "own_copy" = some (.ref t.iP)
 lp:Fun K "own_copy" "own_copy" iE t.iP t.iL
 rY:Binds K t.iL ["thing"] []
 Fa:mg "put" = some (.ref t.AT)
 C2:Fun K "put" "put" Ai t.AT t.AQ
 E8:Binds K t.AQ ["things","order"] []
 i6:mg "told_order" = some (.ref t.fL)
 fA:Fun K "told_order" "told_order" fh t.fL t.dk
 i5:Binds K t.dk ["rows"] []
 jt:mg "counts" = some (.ref t.mM)
 ia:Fun K "counts" "counts" lZ t.mM t.mG
 js:Binds K t.mG ["row","base"] []
 qQ:mg "begins" = some (.ref t.mL)
 mC:Fun K "begins" "begins" l6 t.mL t.mF
 qP:Binds K t.mF ["counts"] []
 cq:mg "many_columns" = some (.ref t.dD)
 bK:Fun K "many_columns" "many_columns" dv t.dD t.dA
 cn:Binds K t.dA ["rows"] []
 AY:mg "tally" = some (.ref t.pP)
 vE:Fun K "tally" "tally" pq t.pP t.pN
 AM:Binds K t.pN ["rows","base"] []
 oq:mg "beginnings" = some (.ref t.fJ)
 iX:Fun K "beginnings" "beginnings" fi t.fJ t.fE
 oh:Binds K t.fE ["rows","column"] []
 gA:mg "is_parted" = some (.ref t.gx)
 eD:Fun K "is_parted" "is_parted" gi t.gx t.gr
 gp:Binds K t.gr ["often"] []
 dS:mg "order_by_figure" = some (.ref t.cj)
 cf:Fun K "order_by_figure" "order_by_figure" ce t.cj t.cg
 dR:Binds K t.cg ["row","base"] []
 se:mg "parts_of" = some (.ref t.iQ)
 lq:Fun K "parts_of" "parts_of" iF t.iQ t.iM
 rZ:Binds K t.iM ["first","often","column"] []
 ou:mg "from_first" = some (.ref t.fK)
 iZ:Fun K "from_first" "from_first" fj t.fK t.fG
 om:Binds K t.fG ["rows","base"] []
 jf:mg "many_goings_on" = some (.ref t.cH)
 eV:Fun K "many_goings_on" "many_goings_on" cz t.cH t.cE
 jd:Binds K t.cE ["longer"] []
 je:mg "ahead_of_first" = some (.ref t.cF)
 eU:Fun K "ahead_of_first" "ahead_of_first" cA t.cF t.cC
 jc:Binds K t.cC ["lists"] []
 pR:mg "from_last" = some (.ref t.gw)
 ka:Fun K "from_last" "from_last" gj t.gw t.gq
 pI:Binds K t.gq ["rows","base"] []
 kC:mg "ahead_of_last" = some (.ref t.c9)
 fx:Fun K "ahead_of_last" "ahead_of_last" cS t.c9 t.cY
 kf:Binds K t.cY ["tally"] []
 yV:mg "runs" = some (.ref t.vS)
 vD:Fun K "runs" "runs" uR t.vS t.vM
 yR:Binds K t.vM ["rows"] []
 x9:mg "merged" = some (.ref t.mO)
 qM:Fun K "merged" "merged" l7 t.mO t.mI
 xX:Binds K t.mI ["one","other"] []
 kD:mg "merged_places" = some (.ref t.db)
 fy:Fun K "merged_places" "merged_places" cT t.db t.c6
 kg:Binds K t.c6 ["rows","one","other"] []
 kE:mg "merging_round" = some (.ref t.dc)
 fz:Fun K "merging_round" "merging_round" cU t.dc t.c7
 kh:Binds K t.c7 ["lengths"] []
 fM:mg "ahead_of_runs" = some (.ref t.da)
 cX:Fun K "ahead_of_runs" "ahead_of_runs" cV t.da t.cZ
 fC:Binds K t.cZ ["lengths"] []
 vU:mg "by_runs" = some (.ref t.kx)
 n9:Fun K "by_runs" "by_runs" jY t.kx t.kn
 vF:Binds K t.kn ["rows"] []
 yU:mg "last_ahead" = some (.ref t.cu)
 i0:Fun K "last_ahead" "last_ahead" fk t.cu t.fH
 on:Binds K t.fH ["rows","base"] []
 x6:mg "first_ahead" = some (.ref t.bW)
 ib:Fun K "first_ahead" "first_ahead" eh t.bW t.eJ
 mE:Binds K t.eJ ["rows","base"] []
 yW:mg "runs_ahead" = some (.ref t.cw)
 i3:Fun K "runs_ahead" "runs_ahead" fm t.cw t.fI
 oo:Binds K t.fI ["rows","base"] []
 AV:mg "last_done" = some (.ref t.ci)
 kb:Fun K "last_done" "last_done" gl t.ci t.gs
 pJ:Binds K t.gs ["rows","base"] []
 yT:mg "first_done" = some (.ref t.bP)
 iY:Fun K "first_done" "first_done" fq t.bP t.fF
 oj:Binds K t.fF ["rows","base"] []
 AX:mg "runs_done" = some (.ref t.ck)
 kc:Fun K "runs_done" "runs_done" gm t.ck t.gu
 pK:Binds K t.gu ["rows","base"] []
 ig:mg "moves_ahead" = some (.ref t.eP)
 eE:Fun K "moves_ahead" "moves_ahead" en t.eP t.eK
 ic:Binds K t.eK ["kind","keys","base"] []
 vV:mg "ordered" = some (.ref t.kz)
 oe:Fun K "ordered" "ordered" jZ t.kz t.kq
 vG:Binds K t.kq ["way","kind","keys","base"] []
 Da:mg "_law_tape" = some (.ref t.vT)
 yP:Fun K "_law_tape" "_law_tape" uS t.vT t.vN
 C5:Binds K t.vN ["_law_script","_law_k"] []
 bZ:mg "_law_draw" = some (.ref t.vP)
 bV:Fun K "_law_draw" "_law_draw" uT t.vP t.vJ
 bY:Binds K t.vJ ["_law_tape_here","_law_many_here"] []
 C9:mg "_law_many" = some (.ref t.vR)
 yO:Fun K "_law_many" "_law_many" uU t.vR t.vL
 C4:Binds K t.vL ["_law_tape_here"] []
 yS:mg "_law_base" = some (.ref t.vO)
 vB:Fun K "_law_base" "_law_base" uV t.vO t.vI
 yQ:Binds K t.vI ["_law_tape_here"] []
 AW:mg "_law_power" = some (.ref t.pO)
 vC:Fun K "_law_power" "_law_power" pr t.pO t.pM
 AL:Binds K t.pM ["_law_base_here","_law_many_here"] []
 ya:mg "_law_number" = some (.ref t.mP)
 qN:Fun K "_law_number" "_law_number" l8 t.mP t.mJ
 xY:Binds K t.mJ ["_law_tape_here","_law_base_here"] []
 E9:mg "_law_key" = some (.ref t.AR)
 C1:Fun K "_law_key" "_law_key" Aj t.AR t.AN
 E7:Binds K t.AN ["_law_tape_here","_law_base_here"] []
 C8:mg "_law_keys" = some (.ref t.vQ)
 yN:Fun K "_law_keys" "_law_keys" uW t.vQ t.vK
 C3:Binds K t.vK ["_law_tape_here","_law_base_here"] []
 vW:mg "_law_text_of" = some (.ref t.kB)
 og:Fun K "_law_text_of" "_law_text_of" j0 t.kB t.kw
 vH:Binds K t.kw ["_law_number_here","_law_columns"] []
 x8:mg "_law_lowest" = some (.ref t.mN)
 qL:Fun K "_law_lowest" "_law_lowest" l9 t.mN t.mH
 xW:Binds K t.mH ["_law_top","_law_bottom"] []
 yb:mg "_law_others" = some (.ref t.mQ)
 qO:Fun K "_law_others" "_law_others" md t.mQ t.mK
 xZ:Binds K t.mK ["_law_tape_here","_law_keys_here"] []
 Gv:mg "law" = some (.ref t.AS)
 E6:Fun K "law" "law" rQ t.AS t.AO
 Gq:Binds K t.AO ["_law_script"] []
 sf:mg "abs" = none
 qS:mg "bool" = none
 ow:mg "dict" = none
 df:mg "enumerate" = none
 sg:mg "int" = none
 bf:mg "isinstance" = none
 bv:mg "len" = none
 fY:mg "list" = none
 ox:mg "max" = none
 mS:mg "min" = none
 vY:mg "ord" = none
 bn:mg "range" = none
 ij:mg "sorted" = none
 kP:mg "sum" = none
 bA:mg "tuple" = none
 yd:mg "zip" = none
 Gs:t.dk.code=.ref t.cc
 Gu:Kz K t.cc t.pt=true
 Gr:t.bs.BuiltinsAt mg t.pt
 C6:mg "DONE" = some (.ref t.lr)
 yc:EN K t.wd.params t.lr [("last",t.ci),("first",t.bP),("runs",t.ck)]
 AU:mg "AHEAD" = some (.ref t.iJ)
 vX:EN K t.wd.params t.iJ [("last",t.cu),("first",t.bW),("runs",t.cw)]
 C7:mg "WAYS" = some (.ref t.i4)
 qR:∀H,SqT K H t.i4 [.str "last",.str "first",.str "runs"]
 pQ:mg "TEXT_BASE" = some (.int 27 t.gz)
theorem uX:bootBuiltins "abs" = some (.builtin "abs"):=by decide +kernel
theorem Ak:bootBuiltins "bool" = some (.type "bool"):=by decide +kernel
theorem uY:bootBuiltins "dict" = some (.type "dict"):=by decide +kernel
theorem uZ:bootBuiltins "int" = some (.type "int"):=by decide +kernel
theorem bH:bootBuiltins "isinstance" = some (.builtin "isinstance"):=by decide +kernel
theorem aR:bootBuiltins "len" = some (.builtin "len"):=by decide +kernel
theorem me:bootBuiltins "list" = some (.type "list"):=by decide +kernel
theorem u4:bootBuiltins "max" = some (.builtin "max"):=by decide +kernel
theorem li:bootBuiltins "min" = some (.builtin "min"):=by decide +kernel
theorem yG:bootBuiltins "ord" = some (.builtin "ord"):=by decide +kernel
theorem j2:bootBuiltins "sum" = some (.builtin "sum"):=by decide +kernel
theorem bu:bootBuiltins "tuple" = some (.type "tuple"):=by decide +kernel
theorem sc_many_figures:FnScope ["n","base","many","rest"] ["n","base"] (ao dq):=by walk_at "s"
theorem sc_figures:FnScope ["n","base","many","lowest_first","rest","turn"] ["n","base","many"] (ao jW):=by walk_at "s"
theorem sc_common_measure:FnScope ["one","other","greater","less"] ["one","other"] (ao cy):=by walk_at "s"
theorem sc_least_bottom:FnScope ["parts","least","top","bottom"] ["parts"] (ao du):=by walk_at "s"
theorem sc_whole_numbers:FnScope ["parts","least"] ["parts"] (ao cR):=by walk_at "s"
theorem sc_number_rows:FnScope ["numbers","base","least","columns"] ["numbers","base"] (ao ee):=by walk_at "s"
theorem sc_text_row:FnScope ["text","columns","before_first","letters"] ["text","columns"] (ao iC):=by walk_at "s"
theorem sc_text_rows:FnScope ["texts","columns"] ["texts"] (ao gh):=by walk_at "s"
theorem rR:FnScope ["kind","keys","base"] ["kind","keys","base"] (ao jX):=by walk_at "s"
theorem sc_is_order:FnScope ["thing","met","place"] ["thing"] (ao iD):=by walk_at "s"
theorem kL:FnScope ["thing","many"] ["thing","many"] (ao ef):=by walk_at "s"
theorem sc_own_copy:FnScope ["thing","parts","firsts","part","at"] ["thing"] (ao iE):=by walk_at "s"
theorem Cz:FnScope ["things","order"] ["things","order"] (ao Ai):=by walk_at "s"
theorem mf:FnScope ["rows"] ["rows"] (ao fh):=by walk_at "s"
theorem sc_counts:FnScope ["row","base","often","figure"] ["row","base"] (ao lZ):=by walk_at "s"
theorem sc_begins:FnScope ["counts","lesser","so_far","many"] ["counts"] (ao l6):=by walk_at "s"
theorem j4:FnScope ["rows"] ["rows"] (ao dv):=by walk_at "s"
theorem xD:FnScope ["rows","base"] ["rows","base"] (ao pq):=by walk_at "s"
theorem sc_beginnings:FnScope ["rows","column","often","row","beginning"] ["rows","column"] (ao fi):=by walk_at "s"
theorem nL:FnScope ["often"] ["often"] (ao gi):=by walk_at "s"
theorem sc_order_by_figure:FnScope ["row","base","marks","order","place","figure"] ["row","base"] (ao ce):=by walk_at "s"
theorem pv:FnScope ["first","often","column"] ["first","often","column"] (ao iF):=by walk_at "s"
theorem sc_from_first:FnScope ["rows","base","order","steps","columns","waiting","first","last","column","stretch","row","often"] ["rows","base"] (ao fj):=by walk_at "s"
theorem sc_many_goings_on:FnScope ["longer","many","beginning","rows_with_it","shorter"] ["longer"] (ao cz):=by walk_at "s"
theorem sc_ahead_of_first:FnScope ["lists","steps","moves","column","goings_on","beginning","many"] ["lists"] (ao cA):=by walk_at "s"
theorem sc_from_last:FnScope ["rows","base","order","steps","column","row"] ["rows","base"] (ao gj):=by walk_at "s"
theorem sc_ahead_of_last:FnScope ["tally","columns"] ["tally"] (ao cS):=by walk_at "s"
theorem sc_runs:FnScope ["rows","lengths","place","row"] ["rows"] (ao uR):=by walk_at "s"
theorem sc_merged:FnScope ["one","other","both","at","beside"] ["one","other"] (ao l7):=by walk_at "s"
theorem sc_merged_places:FnScope ["rows","one","other","pairs","places"] ["rows","one","other"] (ao cT):=by walk_at "s"
theorem sc_merging_round:FnScope ["lengths","steps","behind","first","at","both","last"] ["lengths"] (ao cU):=by walk_at "s"
theorem sc_ahead_of_runs:FnScope ["lengths","steps","stretches","done"] ["lengths"] (ao cV):=by walk_at "s"
theorem sc_by_runs:FnScope ["rows","order","steps","first","middle","last"] ["rows"] (ao jY):=by walk_at "s"
theorem mh:FnScope ["rows","base"] ["rows","base"] (ao fk):=by walk_at "s"
theorem kM:FnScope ["rows","base"] ["rows","base"] (ao eh):=by walk_at "s"
theorem mi:FnScope ["rows","base"] ["rows","base"] (ao fm):=by walk_at "s"
theorem sc_last_done:FnScope ["rows","base","order","steps"] ["rows","base"] (ao gl):=by walk_at "s"
theorem sc_first_done:FnScope ["rows","base","order","steps"] ["rows","base"] (ao fq):=by walk_at "s"
theorem sc_runs_done:FnScope ["rows","base","order","steps"] ["rows","base"] (ao gm):=by walk_at "s"
theorem sc_moves_ahead:FnScope ["kind","keys","base","by","rows","told","way","ahead"] ["kind","keys","base"] (ao en):=by walk_at "s"
theorem sc_ordered:FnScope ["way","kind","keys","base","by","rows","done","order","moves","told"] ["way","kind","keys","base"] (ao jZ):=by walk_at "s"
theorem sc_tape:FnScope ["_law_script","_law_k","_law_cell"] ["_law_script","_law_k"] (ao uS):=by walk_at "s"
theorem sc_draw:FnScope ["_law_tape_here","_law_many_here","_law_found","_law_once","_law_twice"] ["_law_tape_here","_law_many_here"] (ao uT):=by walk_at "s"
theorem Al:FnScope ["_law_tape_here"] ["_law_tape_here"] (ao uU):=by walk_at "s"
theorem Am:FnScope ["_law_tape_here"] ["_law_tape_here"] (ao uV):=by walk_at "s"
theorem sc_power:FnScope ["_law_base_here","_law_many_here","_law_found","_law_k"] ["_law_base_here","_law_many_here"] (ao pr):=by walk_at "s"
theorem sc_number:FnScope ["_law_tape_here","_law_base_here","_law_way"] ["_law_tape_here","_law_base_here"] (ao l8):=by walk_at "s"
theorem CA:FnScope ["_law_tape_here","_law_base_here"] ["_law_tape_here","_law_base_here"] (ao Aj):=by walk_at "s"
theorem sc_keys:FnScope ["_law_tape_here","_law_base_here","_law_most","_law_some","_law_found","_law_k","_law_key_here"] ["_law_tape_here","_law_base_here"] (ao uW):=by walk_at "s"
theorem sc_text_of:FnScope ["_law_number_here","_law_columns","_law_found","_law_k"] ["_law_number_here","_law_columns"] (ao j0):=by walk_at "s"
theorem sc_lowest:FnScope ["_law_top","_law_bottom","_law_one","_law_other"] ["_law_top","_law_bottom"] (ao l9):=by walk_at "s"
theorem sc_others:FnScope ["_law_tape_here","_law_keys_here","_law_least","_law_bottom","_law_found"] ["_law_tape_here","_law_keys_here"] (ao md):=by walk_at "s"
theorem sc_law:FnScope ["_law_script","_law_k","_law_tape_here","_law_base_here","_law_keys_here","_law_rows","_law_order","_law_others_here","_law_moves","_law_kind","_law_some","_law_by","_law_way","_law_found"] ["_law_script"] (ao rQ):=by walk_at "s"
section
variable{P:Program}{w:World}{K:GC}{mg:Str->Option Value}{base:Heap}{t:Ad}
theorem bM(r:List Nat):NV r=(bE r).map PR:=k4 r
section
variable{K:GC}{H:Hp}{Q:VK}
theorem pw{lo hi:Option Int}(h1:H a=some (.lst xs))(h:∀p H',H p=none->Same H H'->H' p=some (.lst (kU xs lo hi))->Q (.ref p) H'):Df K (.ref a) lo hi H Q:=⟨a,xs,rfl,PP h1,λp hp=>h p _ hp ((PV H).new hp) aa⟩
theorem An{lo hi:Option Int}(h1:H a=some (.lst xs))(h:∀p H',Same H H'->H' p=some (.lst (kU xs lo hi))->Q (.ref p) H'):Df K (.ref a) lo hi H Q:=⟨a,xs,rfl,PP h1,λp hp=>h p _ ((PV H).new hp) aa⟩
end
theorem bz (T:Tx K mg t):FnOk P t.wd K mg t.bs CX0 1 t.vP t.vJ ["_law_tape_here","_law_many_here"] BU:=by
 refine T.bV.okQ sc_draw (λvs H Q E h=>?_) (λcdv A outer s H vs Q E hr h=>?_)
 ·obtain⟨p,m,rfl,_⟩:=h
  rfl
 ·obtain⟨p,m,rfl,⟨a,b,c,hp,ha⟩,hm,hm2,k⟩:=h
  refine⟨_,(ad (bR (aD wa (aJ (bg (K:=K)) (qv 0) af) af (aK _)) (ad (ar (i:=2) sc_draw.nd rfl (GI rfl) (ax jB (aJ (bg (K:=K)) (qv 0) af) (qv 1)))
   (ad (kY (ax dl (aJ (bg (K:=K)) (qv 0) af) (qv 1)) (qv 0) af)
   (aj (au (qv 2))))) bi)
   (ad (kY (ax ca (aJ (bg (K:=K)) (qv 0) af) af) (qv 0) af)
   (ad (ar (i:=3) sc_draw.nd rfl (GI rfl) (ax jB (ax i7 (ax ca (aJ (bg (K:=K)) (qv 0) af) (ax i7 af (aJ (bg (K:=K)) (qv 0) af))) af) af))
   (ad (ar (i:=4) sc_draw.nd rfl (GI rfl) (ax jB (ax i7 (qv 3) (ax ca (ax jB (qv 3) af) (aJ (bg (K:=K)) (qv 0) af))) af))
   (aj (au (ax jB (ax dl (ax i7 (qv 4) (ax ca (ax jB (qv 4) af) af)) af) (qv 1)))))))),?_⟩
  rw[show L2.start ["_law_tape_here","_law_many_here","_law_found","_law_once","_law_twice"] [PY p,PR m]=[some (PY p),some (PR m),none,none,none]from rfl];nofun;refine aS (λh0=>?_) (λh0=>?_)
  ·nofun
   exact k _ _ (N0 _ ⋯) (Nk _ hm) (Tape.mk (Int.ediv_nonneg ha ⋯))
  ·nofun
   exact k _ _ (N0 _ ⋯) (Nk _ hm) (Tape.mk ha)
theorem Ao (T:Tx K mg t):FnOk P t.wd K mg t.bs CX0 1 t.vT t.vN ["_law_script","_law_k"] (BT K):=by
 refine T.yP.okQ sc_tape (λvs H Q E h=>?_) (λcdv A outer s H vs Q E hr h=>?_)
 ·obtain⟨a,ns,k,rfl,_⟩:=h
  rfl
 ·obtain⟨a,ns,k,rfl,hS,hk,q⟩:=h
  refine⟨_,(ad (ar (i:=2) sc_tape.nd rfl (GI rfl) (wL (aD yr (qv 1) (ap (aW (K:=K)) (by rfl) T.bv aR (ag (qv 0) ac)) (aK _)) (aJ (bg (K:=K)) (qv 0) (qv 1)) af))
   (aj (au (ba (ag (ax i7 (ap tL (by rfl) T.sf uX (ag (qv 2) ac)) (aP yt (by rfl) T.sg uZ (ag (oP Fw (ap tL (by rfl) T.sf uX (ag (qv 2) ac)) (ax oR af af) (aK _)) ac))) (ag (ax jB (ax ca (ax ca (qv 2) (ax i7 af (qv 1))) af) af) (ag af ac))))))),?_⟩
  rw[show L2.start ["_law_script","_law_k","_law_cell"] [PY a,PR k]=[some (PY a),some (PR k),none]from rfl];nofun;refine aH hS ?_;nofun;refine aS (λh0=>?_) (λh0=>?_)
  ·nofun
   have hlt:k.toNat<ns.length:=by rw[GA]at h0;lia
   have hget:atI (ns.map PR) k=some (PR ns[k.toNat]):=by
    have e:k=(k.toNat:Int):=by lia
    have:=aU (xs:=ns.map PR) (j:=k.toNat) (v:=PR ns[k.toNat]) (by simp[hlt]);rw[<-e]at this;exact this
   refine bB hS hget ?_;generalize ns[k.toNat]=cell;nofun;exact⟨az (by simp),λp hp=>q p _ hp (λb o e=>by rw[ai (ae e hp)];exact e) ⟨_,_,_,aa,N7 (by split<;>lia) (by(repeat' split)<;>lia)⟩⟩
  ·nofun
   exact⟨az (by simp),λp hp=>q p _ hp (λb o e=>by rw[ai (ae e hp)];exact e) ⟨_,_,_,aa,N7 (by split<;>lia) (by(repeat' split)<;>lia)⟩⟩
theorem u5 (T:Tx K mg t):FnOk P t.wd K mg t.bs CX0 2 t.vO t.vI ["_law_tape_here"] BV:=by
 refine T.vB.okQ Am (λvs H Q E h=>?_) (λcdv A outer s H vs Q E hr h=>?_)
 ·obtain⟨p,rfl,_⟩:=h
  rfl
 ·obtain⟨p,rfl,hT,k⟩:=h
  refine⟨_,(aj (au (aJ (bg (K:=K)) (ba (ag af (ag af (ag af (ag af (ag af (ag (ax ca af (ak (bz T) (hr.mono (by decide)) rfl T.bZ T.bV.kp T.bY ay (ag (qv 0) (ag af ac)))) ac))))))) (ak (bz T) (hr.mono (by decide)) rfl T.bZ T.bV.kp T.bY ay (ag (qv 0) (ag af ac)))))),?_⟩;rw[show L2.start ["_law_tape_here"] [PY p]=[some (PY p)]from rfl];nofun;refine⟨p,63,rfl,hT,by decide,by decide,λr H1 r0 r1 S1=>?_⟩;nofun;refine⟨az (by simp),λq hq=>?_⟩;nofun;refine⟨p,6,rfl,(S1.new hq).tape,by decide,by decide,λr' H2 q0 q1 S2=>?_⟩;obtain⟨v,e,hv⟩:=im (xs:=[PR 2,PR 3,PR 10,PR 16,PR 64,PR (2+r)]) q0 q1;refine bB (PP (S2.keep q _ aa (S1.tape.ne hq))) e ?_;simp only[GW,Hy,or_false]at hv;rcases hv with rfl|rfl|rfl|rfl|rfl|rfl<;>exact k _ _ ⋯ ⋯ ((S1.new hq).trans S2)
theorem xE (T:Tx K mg t):FnOk P t.wd K mg t.bs CX0 1 t.pO t.pM ["_law_base_here","_law_many_here"] zE:=by
 refine T.vC.okQ sc_power (λvs H Q E h=>?_) (λcdv A outer s H vs Q E hr h=>?_)
 ·obtain⟨b,m,rfl,_⟩:=h
  rfl
 ·obtain⟨b,m,rfl,hb,hm,k⟩:=h
  refine⟨_,(ad (ar (i:=2) sc_power.nd rfl (GI rfl) af)
   (ad (bC Ha rfl (bT rfl T.bn (ag (qv 1) ac)) (ah (i:=3) sc_power.nd rfl (GI rfl)) (aj (ar (i:=2) sc_power.nd rfl (GI rfl) (ax i7 (qv 2) (qv 0)))))
   (aj (au (qv 2))))),?_⟩
  rw[show L2.start ["_law_base_here","_law_many_here","_law_found","_law_k"] [PR b,PR m]=[some (PR b),some (PR m),none,none]from rfl];nofun;refine⟨m,rfl,by lia,by lia,dG (n:=m) (λi σ H'=>H'=H/\∃v,σ=[some (PR b),some (PR m),some (PR ((b ^ i:Nat):Int)),v]) ⟨rfl,none,rfl⟩ ?_ ?_⟩
  ·rintro i σ H' hi ⟨rfl,v,rfl⟩
   nofun;have e:((b ^ (i+1):Nat):Int)=((b ^ i:Nat):Int)*(b:Int):=by rw[JF,Ja]
   rw[e];exact⟨rfl,_,rfl⟩
  ·rintro σ H' ⟨rfl,v,rfl⟩
   nofun;exact k
theorem u6 (T:Tx K mg t):FnOk P t.wd K mg t.bs CX0 2 t.mP t.mJ ["_law_tape_here","_law_base_here"] wJ:=by
 refine T.qN.okQ sc_number (λvs H Q E h=>?_) (λcdv A outer s H vs Q E hr h=>?_)
 ·obtain⟨p,b,rfl,_⟩:=h
  rfl
 ·obtain⟨p,b,rfl,hT,hb,hb2,k⟩:=h
  refine⟨_,(ad (ar (i:=2) sc_number.nd rfl (GI rfl) (ak (bz T) (hr.mono (by decide)) rfl T.bZ T.bV.kp T.bY ay (ag (qv 0) (ag af ac))))
   (ad (bR (aD yr (qv 2) af (aK _)) (aj (au (ak (bz T) (hr.mono (by decide)) rfl T.bZ T.bV.kp T.bY ay (ag (qv 0) (ag af ac))))) bi)
   (ad (bR (aD v0 (qv 2) af (aK _)) (aj (au (ap (tM rfl) (by rfl) T.mS li (ag (ax cK (ax ca (ak (xE T) (hr.mono (by decide)) rfl T.AW T.vC.kp T.AL ay (ag (qv 1) (ag (ak (bz T) (hr.mono (by decide)) rfl T.bZ T.bV.kp T.bY ay (ag (qv 0) (ag af ac))) ac))) (ak (bz T) (hr.mono (by decide)) rfl T.bZ T.bV.kp T.bY ay (ag (qv 0) (ag af ac)))) af) (ag (ax cK (ax oR af af) af) ac))))) bi)
   (ad (bR (aD v0 (qv 2) af (aK _)) (aj (au (ax cK (ax cK (ax oR af af) af) (ak (bz T) (hr.mono (by decide)) rfl T.bZ T.bV.kp T.bY ay (ag (qv 0) (ag af ac)))))) bi)
   (ad (bR (aD v0 (qv 2) af (aK _)) (aj (au (ax ca (ax oR af af) (ak (bz T) (hr.mono (by decide)) rfl T.bZ T.bV.kp T.bY ay (ag (qv 0) (ag af ac)))))) bi)
   (aj (au (ak (bz T) (hr.mono (by decide)) rfl T.bZ T.bV.kp T.bY ay (ag (qv 0) (ag (aJ (bg (K:=K)) (ba (ag af (ag (ax oR af af) (ag (ax oR af af) ac)))) (ak (bz T) (hr.mono (by decide)) rfl T.bZ T.bV.kp T.bY ay (ag (qv 0) (ag af ac)))) ac)))))))))),?_⟩
  rw[show L2.start ["_law_tape_here","_law_base_here","_law_way"] [PY p,PR b]=[some (PY p),some (PR b),none]from rfl];nofun;refine⟨p,8,rfl,hT,by decide,by decide,λr H1 r0 r1 S1=>?_⟩;nofun;refine aS (λh1=>?_) (λh1=>?_)
  ·nofun
   exact⟨p,6,rfl,S1.tape,by decide,by decide,λr' H2 q0 q1 S2=>k _ _ q0 ⋯ (S1.trans S2)⟩
  nofun;refine aS (λh2=>?_) (λh2=>?_)
  ·nofun
   refine⟨p,12,rfl,S1.tape,by decide,by decide,λr' H2 q0 q1 S2=>?_⟩;nofun;refine⟨b.toNat,r'.toNat,by rw[Jr ⋯,Jr ⋯];rfl,by lia,by lia,?_⟩;nofun;refine⟨p,3,rfl,S2.tape,by decide,by decide,λr2 H3 u0 u1 S3=>?_⟩;nofun;have hp1:(1:Int)<=((b.toNat ^ r'.toNat:Nat):Int):=by
    have:=Ko (n:=r'.toNat) (show 0<b.toNat by lia);lia
   refine k _ _ ?_ ?_ ((S1.trans S2).trans S3)
   ·split<;>lia
   ·split<;>lia
  nofun;refine aS (λh3=>?_) (λh3=>?_)
  ·nofun
   refine⟨p,4,rfl,S1.tape,by decide,by decide,λr' H2 q0 q1 S2=>?_⟩;nofun;exact k _ _ ⋯ ⋯ (S1.trans S2)
  nofun;refine aS (λh4=>?_) (λh4=>?_)
  ·nofun
   refine⟨p,6,rfl,S1.tape,by decide,by decide,λr' H2 q0 q1 S2=>?_⟩;nofun;exact k _ _ ⋯ ⋯ (S1.trans S2)
  nofun;refine⟨az (by simp),λq hq=>?_⟩;nofun;have S1':=S1.new (o:=.lst [PR 100,PR 1000000,PR 1000000000000000000]) hq;refine⟨p,3,rfl,S1'.tape,by decide,by decide,λr' H2 q0 q1 S2=>?_⟩;obtain⟨v,e,hv⟩:=im (xs:=[PR 100,PR 1000000,PR 1000000000000000000]) q0 q1;refine bB (PP (S2.keep q _ aa (S1.tape.ne hq))) e ?_;simp only[GW,Hy,or_false]at hv;rcases hv with rfl|rfl|rfl<;>exact⟨p,_,rfl,S2.tape,by decide,by decide,λr3 H3 u0 u1 S3=>k _ _ u0 ⋯ ((S1'.trans S2).trans S3)⟩
theorem u7 {K:GC}{H:Hp}{Q:VK}(s:H p=some (.tup xs)) (h:Q (.bl false) H):yp K [.ref p,.ty "list"] H Q:=⟨_,_,_,_,rfl,.tup s,rfl,h⟩
def Ap:Sp:=λvs H Q _=>∃(a:Addr) (os:List Nat) (n:Nat),vs=[.ref a]/\(H a=some (.lst (NV os))\/False)/\Ord os n/\n<=60/\∀H',Same H H'->Q (.bl true) H'
theorem pz (T:Tx K mg t):FnOk P t.wd K mg t.bs CX0 1 t.iO t.iK ["thing"] Ap:=by
 refine T.ln.okQ sc_is_order (λvs H Q E h=>?_) (λcdv A outer s H vs Q E hr h=>?_)
 ·obtain⟨a,os,n,rfl,_⟩:=h
  rfl
 ·obtain⟨a,os,n,rfl,hs,hO,hn,k⟩:=h
  have hlen:=hO.len;rcases hs with ta|ta
  ·refine⟨_,(ad (bR (kX (ff (ap (zJ (K:=K)) (by rfl) T.bf bH (ag (qv 0) (ag (aT (ag (fe rfl T.fY me (v:=.ty "list") rfl) (ag (fe rfl T.bA bu (v:=.ty "tuple") rfl) ac))) ac))))) (aj (au jy)) bi)
   (ad (ar (i:=1) sc_is_order.nd rfl (GI rfl) (ax wM (ba (ag jy ac)) (ap (aW (K:=K)) (by rfl) T.bv aR (ag (qv 0) ac))))
   (ad (bC Ha rfl (aE (K:=K) (qv 0)) (ah (i:=2) sc_is_order.nd rfl (GI rfl)) (ad (bR (QW.qt (lB (ff (ap (p7 (K:=K)) (by rfl) T.bf bH (ag (qv 2) (ag (fe rfl T.qS Ak (v:=.ty "bool") rfl) ac)))) (iT (kX (ff (ap (p7 (K:=K)) (by rfl) T.bf bH (ag (qv 2) (ag (fe rfl T.sg uZ (v:=.ty "int") rfl) ac)))))))) (aj (au jy)) bi)
   (ad (bR (QW.qt (lB (aD yr (qv 2) af (aK _)) (lB (aD Fw (qv 2) (ap (aW (K:=K)) (by rfl) T.bv aR (ag (qv 0) ac)) (aK _)) (iT (ff (aJ (bg (K:=K)) (qv 1) (qv 2))))))) (aj (au jy)) bi)
   (aj (kY jy (qv 1) (qv 2))))))
   (aj (au jy))))),?_⟩
   rw[show L2.start ["thing","met","place"] [PY a]=[some (PY a),none,none]from rfl];nofun;refine⟨az (by simp),λtp htp=>?_⟩;have s0:=(PV H).new (o:=.tup [PZ "list",PZ "tuple"]) htp;have ttp:(upd H tp (.tup [PZ "list",PZ "tuple"])) tp=some (.tup [PZ "list",PZ "tuple"]):=aa;generalize upd H tp (.tup [PZ "list",PZ "tuple"])=H0 at s0 ttp;nofun;refine wP (s0 _ _ ta) ttp ?_;nofun;refine⟨az (by simp),λq0 hq0=>?_⟩;have s1:=s0.new (o:=.lst [V.bl false]) hq0;have t0:(upd H0 q0 (.lst [V.bl false])) q0=some (.lst [V.bl false]):=aa;generalize upd H0 q0 (.lst [V.bl false])=H1 at s1 t0;nofun;refine aH (PP (s1 _ _ ta)) ?_;rw[aw];refine⟨q0,_,_,rfl,rfl,t0,by lia,by lia,az (by simp;lia),λm hm=>?_⟩;have efl:(GY ((os.length:Nat):Int).toNat [V.bl false]).flatten=(GY os.length false).map V.bl:=by
    show(GY os.length [V.bl false]).flatten=_
    rw[Ka,Jo]
   rw[efl];have s2:=s1.new (o:=.lst ((GY os.length false).map V.bl)) hm;have tm:(upd H1 m (.lst ((GY os.length false).map V.bl))) m=some (.lst ((GY os.length false).map V.bl)):=aa;have hmn:H m=none:=s1.free hm;generalize upd H1 m (.lst ((GY os.length false).map V.bl))=H2 at s2 tm;nofun;refine⟨a,rfl,⟨_,PP (s2 _ _ ta)⟩,cI (a:=a) (xs:=NV os) (λi σ H'=>Same H H'/\(∃met:List Bool,H' m=some (.lst (met.map V.bl))/\met.length=n/\∀(j x:Nat),os[j]? = some x->met[x]? = some (decide (j<i)))/\∃v,σ=[some (PY a),some (PY m),v]) ⟨s2,⟨_,tm,by simp[hlen],λj x e=>?_⟩,none,rfl⟩ (λi σ H' _ h=>PP (h.1 _ _ ta)) ?_ ?_⟩
   ·have:=hO.lt x (Hc e)
    rw[Js,if_pos ⋯];simp
   ·rintro i x σ H3 hx ⟨s3,⟨met,tm3,hml,hmt⟩,v,rfl⟩
    obtain⟨r,rfl,hr,hrm,hi⟩:=aA hx;have hrn:=hO.lt r hrm;have hmr:=hmt i r hr;rw[decide_eq_false (Hw i)]at hmr;nofun;refine gI ⋯ ?_;nofun;refine aH (PP (s3 _ _ ta)) ?_;rw[aw];nofun;refine gI ⋯ ?_;nofun;refine bB (PP tm3) (aU (by rw[GE,hmr];rfl)) ?_;nofun;refine kW tm3 (ng rfl (by rw[GA];lia)) ?_;rw[<-OT];refine⟨s3.own hmn,⟨met.set r true,aa,by simpa using hml,λj x e=>?_⟩,_,rfl⟩;rw[Kl];by_cases hrx:r=x
    ·subst hrx
     have:=hO.inj i j r hr e;subst this;rw[if_pos rfl,if_pos ⋯,decide_eq_true ⋯]
    ·rw[if_neg hrx,hmt j x e]
     have:j≠i:=λz=>hrx (by subst z;rw[hr]at e;exact G8 e)
     congr 1;exact decide_eq_decide.mpr ⋯
   ·rintro σ H3 ⟨s3,_,v,rfl⟩
    nofun;exact k H3 s3
  ·exact ta.elim
def EO(K:GC):Sp:=λvs H Q _=>∃(a:Addr) (os:List Nat) (n:Nat),vs=[.ref a,.int n]/\(H a=some (.lst (NV os))\/False)/\Ord os n/\n<=60/\∀H',Same H H'->Q .non H'
theorem kN (T:Tx K mg t):FnOk P t.wd K mg t.bs CX0 2 t.eO t.eG ["thing","many"] (EO K):=by
 refine T.hZ.okQ kL (λvs H Q E h=>?_) (λcdv A outer s H vs Q E hr h=>?_)
 ·obtain⟨a,os,n,rfl,_⟩:=h
  rfl
 ·obtain⟨a,os,n,rfl,hs,hO,hn,k⟩:=h
  refine⟨_,(aj (bR (QW.qt (lB (kX (ff (ak (pz T) (hr.mono (by decide)) rfl T.r9 T.ln.kp T.rX ay (ag (qv 0) ac)))) (iT (aD Es (ap (aW (K:=K)) (by rfl) T.bv aR (ag (qv 0) ac)) (qv 1) (aK _))))) (aj pZ) bi)),?_⟩;rw[show L2.start ["thing","many"] [PY a,PR n]=[some (PY a),some (PR n)]from rfl];nofun;refine⟨a,os,n,rfl,hs,hO,hn,λH1 s1=>?_⟩;nofun;refine⟨a,NV os,rfl,hs.elim (λh=>.inl (PP (s1 _ _ h))) (λh=>h.elim),?_⟩;rw[aw,hO.len];nofun;refine oN rfl ?_;nofun;exact k H1 s1
def CB:Sp:=λvs H Q _=>∃x,vs=[x]/\Th H x/\∀y H',Same H H'->ThE H' x y->Q y H'
theorem pA (T:Tx K mg t):FnOk P t.wd K mg t.bs CX0 1 t.iP t.iL ["thing"] CB:=by
 refine T.lp.okQ sc_own_copy (λvs H Q E h=>?_) (λcdv A outer s H vs Q E hr h=>?_)
 ·obtain⟨x,rfl,_⟩:=h
  rfl
 ·obtain⟨x,rfl,hx,k⟩:=h
  obtain⟨xs,hxl,hxs,hxc⟩:∃xs:List V,xs.length<=2/\(∀z∈xs,Sc z)/\((Sc x/\xs=[])\/∃t,x=.ref t/\H t=some (.tup xs)/\0<xs.length):=by
   rcases hx with h|⟨t,xs,rfl,ht,h0,h2,hs⟩
   ·exact⟨[],GR _,(λz hz=>nomatch hz),.inl ⟨h,rfl⟩⟩
   ·exact⟨xs,h2,hs,.inr ⟨t,rfl,ht,h0⟩⟩
  refine⟨_,(ad (ar (i:=1) sc_own_copy.nd rfl (GI rfl) (ba (ag (qv 0) ac)))
   (ad (ar (i:=2) sc_own_copy.nd rfl (GI rfl) (ba ac))
   (ad (dX Ha (aD yr (ap (aW (K:=K)) (by rfl) T.bv aR (ag (qv 2) ac)) (ap (aW (K:=K)) (by rfl) T.bv aR (ag (qv 1) ac)) (aK _)) (ad (ar (i:=3) sc_own_copy.nd rfl (GI rfl) (aJ (bg (K:=K)) (qv 1) (ap (aW (K:=K)) (by rfl) T.bv aR (ag (qv 2) ac))))
   (ad (bx (be (K:=K) (qv 2) (ag (ap (aW (K:=K)) (by rfl) T.bv aR (ag (qv 1) ac)) ac)))
   (aj (bR (ff (ap (zP (K:=K)) (by rfl) T.bf bH (ag (qv 3) (ag (aT (ag (fe rfl T.fY me (v:=.ty "list") rfl) (ag (fe rfl T.bA bu (v:=.ty "tuple") rfl) ac))) ac)))) (aj (bx (rH (K:=K) (qv 1) (ag (qv 3) ac)))) bi)))))
   (ad (bC Ha rfl (jI rfl T.bn (ag (ax cK (ap (aW (K:=K)) (by rfl) T.bv aR (ag (qv 1) ac)) af) (ag (jz jC af) (ag (jz jC af) ac)))) (ah (i:=4) sc_own_copy.nd rfl (GI rfl)) (ad (ar (i:=3) sc_own_copy.nd rfl (GI rfl) (aJ (bg (K:=K)) (qv 1) (qv 4)))
   (aj (bR (ff (ap (p7 (K:=K)) (by rfl) T.bf bH (ag (qv 3) (ag (fe rfl T.fY me (v:=.ty "list") rfl) ac)))) (aj (kY (cJ (oS (K:=K)) (qv 1) (bN (aJ (bg (K:=K)) (qv 2) (qv 4))) (bN (ax ca (aJ (bg (K:=K)) (qv 2) (qv 4)) (ap (aW (K:=K)) (by rfl) T.bv aR (ag (qv 3) ac))))) (qv 1) (qv 4))) (aj (bR (ff (ap (p7 (K:=K)) (by rfl) T.bf bH (ag (qv 3) (ag (fe rfl T.bA bu (v:=.ty "tuple") rfl) ac)))) (aj (kY (aP (bL (K:=K)) (by rfl) T.bA bu (ag (cJ (oS (K:=K)) (qv 1) (bN (aJ (bg (K:=K)) (qv 2) (qv 4))) (bN (ax ca (aJ (bg (K:=K)) (qv 2) (qv 4)) (ap (aW (K:=K)) (by rfl) T.bv aR (ag (qv 3) ac))))) ac)) (qv 1) (qv 4))) bi))))))
   (aj (au (aJ (bg (K:=K)) (qv 1) af))))))),?_⟩
  rw[show L2.start ["thing","parts","firsts","part","at"] [x]=[some (x),none,none,none,none]from rfl];nofun;refine⟨az (by simp),λpl hpl=>?_⟩;have s1:=(PV H).new (o:=.lst [x]) hpl;have tp1:(upd H pl (.lst [x])) pl=some (.lst [x]):=aa;generalize upd H pl (.lst [x])=H1 at s1 tp1;nofun;refine⟨az (by simp),λfl hfl=>?_⟩;have hfn:H fl=none:=s1.free hfl;have hpf:pl≠fl:=ae tp1 hfl;have s2:=s1.new (o:=.lst []) hfl;have tp2:(upd H1 fl (.lst [])) pl=some (.lst [x]):=by rw[ai hpf];exact tp1
  have tf2:(upd H1 fl (.lst [])) fl=some (.lst (NV [])):=aa;generalize upd H1 fl (.lst [])=H2 at s2 tp2 tf2;nofun;refine⟨λc σ H'=>∃(fs:List Nat),c=1+xs.length - fs.length/\fs.length<=1+xs.length/\Same H H'/\H' fl=some (.lst (NV fs))/\((fs=[]/\H' pl=some (.lst [x]))\/(fs[0]? = some 1/\H' pl=some (.lst (x::xs))))/\∃v3 v4,σ=[some x,some (PY pl),some (PY fl),v3,v4],⟨_,[],rfl,by simp,s2,tf2,.inl ⟨rfl,tp2⟩,_,_,rfl⟩,?_⟩;rintro c σ H3 ⟨fs,rfl,hfs,s3,tf3,hcase,v3,v4,rfl⟩;rcases hcase with⟨rfl,tp3⟩|⟨hf0,tp3⟩
  ·nofun
   refine aH (PP tf3) ?_;nofun;refine aH (PP tp3) ?_;nofun;refine m8 (by show((0:Nat):Int)<((1:Nat):Int);decide) ?_;refine⟨_,λ_ _ z=>z,?_⟩;nofun;refine aH (PP tf3) ?_;nofun;refine⟨aX tf3,?_⟩;nofun;refine aH (PP tp3) ?_;nofun;refine aL tf3 (am (by simp[aw])) ?_;have s4:=s3.own (o:=.lst (NV [1])) hfn;have tf4:(upd H3 fl (.lst (NV [1]))) fl=some (.lst (NV [1])):=aa;have tp4:(upd H3 fl (.lst (NV [1]))) pl=some (.lst [x]):=by rw[ai hpf];exact tp3
   have eap:NV []++[PR (([x]:List V).length:Nat)]=NV [1]:=rfl;rw[eap];generalize upd H3 fl (.lst (NV [1]))=H4 at s4 tf4 tp4;nofun;refine⟨az (by simp),λtp htp=>?_⟩;have s5:=s4.new (o:=.tup [PZ "list",PZ "tuple"]) htp;have ttp:(upd H4 tp (.tup [PZ "list",PZ "tuple"])) tp=some (.tup [PZ "list",PZ "tuple"]):=aa;have tf5:(upd H4 tp (.tup [PZ "list",PZ "tuple"])) fl=some (.lst (NV [1])):=by rw[ai (ae tf4 htp)];exact tf4
   have tp5:(upd H4 tp (.tup [PZ "list",PZ "tuple"])) pl=some (.lst [x]):=by rw[ai (ae tp4 htp)];exact tp4
   generalize upd H4 tp (.tup [PZ "list",PZ "tuple"])=H5 at s5 ttp tf5 tp5;nofun;rcases hxc with⟨hsc,rfl⟩|⟨t,rfl,ht,h0⟩
   ·refine qq ttp hsc ?_
    nofun;exact⟨_,by simp,[1],rfl,by simp,s5,tf5,.inr ⟨rfl,tp5⟩,_,_,rfl⟩
   ·refine w6 (s5 _ _ ht) ttp ?_
    nofun;refine⟨aX tp5,?_⟩;nofun;refine rJ tp5 (s5 _ _ ht) (az (by simp;lia)) ?_;exact⟨_,by simp,[1],rfl,by simp,s5.own hpl,by rw[ai (Hx hpf)];exact tf5,.inr ⟨rfl,aa⟩,_,_,rfl⟩
  ·have hf1:0<fs.length:=aI hf0
   nofun;refine aH (PP tf3) ?_;rw[aw];nofun;refine aH (PP tp3) ?_;rw[Hh];nofun;refine aS (λg=>?_) (λg=>?_)
   ·refine⟨_,λ_ _ z=>z,?_⟩
    have hlt:fs.length<1+xs.length:=by lia
    obtain⟨i,hi⟩:∃i,fs.length=i+1:=⟨fs.length - 1,by lia⟩
    have hix:i<xs.length:=by lia
    have hget:(x::xs)[fs.length]? = some xs[i]:=by rw[hi,Mg,Gz hix]
    nofun;refine aH (PP tf3) ?_;rw[aw];refine bB (PP tp3) (v:=xs[i]) (aU hget) ?_;have hsc:=hxs _ (GU hix);generalize xs[i]=part at hsc;nofun;refine⟨aX tf3,?_⟩;nofun;refine aH (PP tp3) ?_;rw[Hh];nofun;refine aL tf3 (by rw[aw];exact am ⋯) ?_;rw[bJ];have s4:=s3.own (o:=.lst (NV (fs++[xs.length+1]))) hfn;have tf4:(upd H3 fl (.lst (NV (fs++[xs.length+1])))) fl=some (.lst (NV (fs++[xs.length+1]))):=aa;have tp4:(upd H3 fl (.lst (NV (fs++[xs.length+1])))) pl=some (.lst (x::xs)):=by rw[ai hpf];exact tp3
    generalize upd H3 fl (.lst (NV (fs++[xs.length+1])))=H4 at s4 tf4 tp4;nofun;refine⟨az (by simp),λtp htp=>?_⟩;have s5:=s4.new (o:=.tup [PZ "list",PZ "tuple"]) htp;have ttp:(upd H4 tp (.tup [PZ "list",PZ "tuple"])) tp=some (.tup [PZ "list",PZ "tuple"]):=aa;have tf5:(upd H4 tp (.tup [PZ "list",PZ "tuple"])) fl=some (.lst (NV (fs++[xs.length+1]))):=by rw[ai (ae tf4 htp)];exact tf4
    have tp5:(upd H4 tp (.tup [PZ "list",PZ "tuple"])) pl=some (.lst (x::xs)):=by rw[ai (ae tp4 htp)];exact tp4
    generalize upd H4 tp (.tup [PZ "list",PZ "tuple"])=H5 at s5 ttp tf5 tp5;nofun;refine qq ttp hsc ?_;nofun;exact⟨_,by rw[GZ,HX];lia,fs++[xs.length+1],rfl,by rw[GZ,HX];lia,s5,tf5,.inr ⟨by rw[G6 hf1];exact hf0,tp5⟩,_,_,rfl⟩
   ·have hfl2:fs.length=1+xs.length:=by lia
    nofun;refine aH (PP tp3) ?_;rw[Hh];nofun;refine⟨xs.length+1,rfl,by lia,jF (n:=xs.length+1) (λj σ H'=>Same H H'/\H' fl=some (.lst (NV fs))/\(∃y,H' pl=some (.lst (y::xs))/\(j<xs.length+1->y=x)/\(j=xs.length+1->ThE H' x y))/\∃v3 v4,σ=[some x,some (PY pl),some (PY fl),v3,v4]) ⟨s3,tf3,⟨x,tp3,λ_=>rfl,λh=>by lia⟩,_,_,rfl⟩ (λi σ H' hi _=>hi) (λσ H' _=>GF _) ?_ ?_⟩
    ·rintro j x0 σ H4o H4 hj ⟨s4,tf4,⟨y,tp4,hy1,hy2⟩,v3,v4,rfl⟩ ⟨rfl,rfl⟩
     have hyx:=hy1 hj;subst hyx;by_cases hjm:j=xs.length
     ·have e0:xs.length+1 - 1 - j=0:=by lia
      rw[e0];nofun;refine bB (PP tp4) (v:=y) (aU (j:=0) rfl) ?_;nofun;rcases hxc with⟨hsc,hxn⟩|⟨t,hyt,ht,h0⟩
      ·refine qr hsc ?_
       nofun;refine qu hsc ?_;nofun;exact⟨s4,tf4,⟨y,tp4,λ_=>rfl,λ_=>.inl ⟨hsc,rfl⟩⟩,_,_,rfl⟩
      ·rw[hyt]
       have ht4:=s4 _ _ ht;refine u7 ht4 ?_;nofun;refine wH ht4 ?_;nofun;refine bB (PP tf4) (kI (i:=0) rfl hf0) ?_;nofun;refine⟨_,rfl,?_⟩;nofun;refine bB (PP tf4) (kI (i:=0) rfl hf0) ?_;nofun;refine tG (PQ ht4) ?_;nofun;refine⟨_,rfl,?_⟩;refine⟨pl,_,rfl,PP tp4,λz hz=>?_⟩;have ecut:kU (y::xs) (some ((1:Nat):Int)) (some (((1:Nat):Int)+(xs.length:Nat)))=xs:=by
        have e1:((1:Nat):Int)+(xs.length:Nat)=((1+xs.length:Nat):Int):=by lia
        unfold kU;rw[e1,HT.fZ,HT.fZ,Hh];have m1:min 1 (xs.length+1)=1:=by lia
        have m2:min (1+xs.length) (xs.length+1)=xs.length+1:=by lia
        rw[m1,m2,M8,Ht,GJ ⋯]
       rw[ecut];have s5:=s4.new (o:=.lst xs) hz;have tz:(upd H4 z (.lst xs)) z=some (.lst xs):=aa;have tf5:(upd H4 z (.lst xs)) fl=some (.lst (NV fs)):=by rw[ai (ae tf4 hz)];exact tf4
       have tp5:(upd H4 z (.lst xs)) pl=some (.lst (y::xs)):=by rw[ai (ae tp4 hz)];exact tp4
       generalize upd H4 z (.lst xs)=H5 at s5 tz tf5 tp5;nofun;refine gJ (PP tz) λu hu=>?_
       have s6:=s5.new (o:=.tup xs) hu;have tu:(upd H5 u (.tup xs)) u=some (.tup xs):=aa;have tf6:(upd H5 u (.tup xs)) fl=some (.lst (NV fs)):=by rw[ai (ae tf5 hu)];exact tf5
       have tp6:(upd H5 u (.tup xs)) pl=some (.lst (y::xs)):=by rw[ai (ae tp5 hu)];exact tp5
       have hup:u≠pl:=λe=>by rw[e,tp5]at hu;cases hu
       generalize upd H5 u (.tup xs)=H6 at s6 tu tf6 tp6;nofun;refine kW tp6 (ng (i:=0) rfl (by simp)) ?_;have s7:=s6.own (o:=.lst ((y::xs).set 0 (PY u))) hpl;refine⟨s7,by rw[ai (Hx hpf)];exact tf6,⟨PY u,by rw[aa];rfl,λh=>by lia,λ_=>.inr ⟨t,u,xs,rfl,rfl,s7 _ _ ht,by rw[ai hup];exact tu,h0,hxl,hxs⟩⟩,_,_,rfl⟩
     ·obtain⟨i,hi,hil⟩:∃i,xs.length+1 - 1 - j=i+1/\i<xs.length:=⟨xs.length - j - 1,by lia,by lia⟩
      rw[hi];have hsc:=hxs _ (GU hil);nofun;refine bB (PP tp4) (v:=xs[i]) (aU (by rw[Mg,Gz hil])) ?_;generalize xs[i]=part at hsc;nofun;refine qr hsc ?_;nofun;refine qu hsc ?_;nofun;exact⟨s4,tf4,⟨y,tp4,λ_=>rfl,λh=>by lia⟩,_,_,rfl⟩
    ·rintro σ H4 ⟨s4,tf4,⟨y,tp4,hy1,hy2⟩,v3,v4,rfl⟩
     nofun;refine bB (PP tp4) (v:=y) (aU (j:=0) rfl) ?_;exact k y H4 s4 (hy2 rfl)
def EQ:Sp:=λvs H Q _=>∃(a c:Addr) (zs:List V) (os:List Nat) (n:Nat),vs=[.ref a,.ref c]/\(H a=some (.lst zs)\/H a=some (.tup zs))/\(∀z∈zs,Th H z)/\zs.length=n/\(H c=some (.lst (NV os))\/False)/\Ord os n/\n<=60/\
 ∀(l:Addr) (ys:List V) H',H l=none->Same H H'->H' l=some (.lst ys)->ys.length=n->(∀(k o:Nat) z,os[k]? = some o->zs[o]? = some z->∃y,ys[k]? = some y/\ThE H' z y)->Q (.ref l) H'
theorem u8{K:GC}{H:Hp}{Q:VK}(s:H p=some (.lst xs)\/H p=some (.tup xs))(h:Q (.int xs.length) H):BL K [.ref p] H Q:=s.elim (λs=>aH (PP s) h) (λs=>tG (PQ s) h)
theorem pB{H:Hp}(s:H p=some (.lst xs)\/H p=some (.tup xs))(e:Same H H1):H1 p=some (.lst xs)\/H1 p=some (.tup xs):=s.elim (λh=>.inl (e _ _ h)) (λh=>.inr (e _ _ h))
theorem CC (T:Tx K mg t):FnOk P t.wd K mg t.bs CX0 3 t.AT t.AQ ["things","order"] EQ:=by
 refine T.C2.okQ Cz (λvs H Q E h=>?_) (λcdv A outer s H vs Q E hr h=>?_)
 ·obtain⟨a,c,zs,os,n,rfl,_⟩:=h
  rfl
 ·obtain⟨a,c,zs,os,n,rfl,ha,hT,hzn,hc,hO,hn,k⟩:=h
  have hlen:=hO.len;rcases hc with tc|tc
  ·refine⟨_,(ad (bx (ak (kN T) (hr.mono (by decide)) rfl T.mR T.hZ.kp T.mD ay (ag (qv 1) (ag (ap (aW (K:=K)) (by rfl) T.bv aR (ag (qv 0) ac)) ac))))
   (aj (au (aN (N:=["place","things"]) (tgs:=["place"]) (frs:=["things"]) (ix:=[0]) ⟨rfl,by decide +kernel,rfl,by decide +kernel,rfl,rfl,⟨⟨rfl,rfl,_,rfl,rfl⟩,GL⟩,⟨rfl,GL⟩,rfl⟩ rfl (aE (K:=K) (qv 1)) (λ_ _ _ _=>(ah (i:=0) (by show G4 (["place","things"]:List Str);decide +kernel) rfl (GI rfl))) (λ_ _ _ _=>(ak (pA T) (hr.mono (by decide)) rfl T.sd T.lp.kp T.rY ay (ag (aJ (EC (K:=K)) (qv 1) (qv 0)) ac))))))),?_⟩
   rw[show L2.start ["things","order"] [PY a,PY c]=[some (PY a),some (PY c)]from rfl];nofun;refine u8 ha ?_;rw[hzn];nofun;refine⟨c,os,n,rfl,.inl tc,hO,hn,λH1 s1=>?_⟩;have tc1:=s1 _ _ tc;nofun;refine⟨c,rfl,⟨_,PP tc1⟩,aF (a:=c) (vs:=NV os) (λi ys σ H'=>Same H1 H'/\ys.length=i/\(∀(k o:Nat) z,k<i->os[k]? = some o->zs[o]? = some z->∃y,ys[k]? = some y/\ThE H' z y)/\∃v,σ=[v,some (PY a)]) (by rw[aw];exact am ⋯) (λi ys σ H' h=>h.2.1) (λi ys σ H' h=>PP (h.1 _ _ tc1)) ⟨PV _,rfl,λk o z h=>absurd h (Mo _),none,rfl⟩ ?_ ?_⟩
   ·rintro i ys σ H2 x hx ⟨s2,hyl,hys,v,rfl⟩
    have hil:=aI hx;obtain⟨o,rfl,ho,hom,hi⟩:=aA hx;have hon:o<zs.length:=by rw[hzn];exact hO.lt o hom
    have hz:=(hT _ (GU hon)).same (s1.trans s2);nofun;refine Cd (pB ha (s1.trans s2)) (v:=zs[o]) (aU (by simp[hon])) ?_;refine⟨zs[o],rfl,hz,λy H3 s3 hy=>?_⟩;refine PX hil ⟨s2.trans s3,by simp[hyl],λk' o' z' hk' e1 e2=>?_,_,rfl⟩;by_cases e:k'=i
    ·subst e
     rw[ho]at e1;cases e1;rw[Gz hon]at e2;cases e2;exact⟨y,by rw[He ⋯,hyl,LY];rfl,hy⟩
    ·obtain⟨y',g1,g2⟩:=hys k' o' z' ⋯ e1 e2
     exact⟨y',by rw[G6 (aI g1)];exact g1,g2.same s3⟩
   ·rintro ys σ H2 ⟨s2,hyl,hys,v,rfl⟩ l hl
    rw[aw]at hyl hys;refine k l ys _ (s1.free (s2.free hl)) ((s1.trans s2).new hl) aa ⋯ λk' o z e1 e2=>?_
    obtain⟨y,g1,g2⟩:=hys k' o z (aI e1) e1 e2;exact⟨y,g1,g2.same ((PV H2).new hl)⟩
  ·exact tc.elim
def RowsT(H:Hp)(ps:List Addr)(rss:List (List Nat)):Prop:=ps.length=rss.length/\∀(i:Nat) p r,ps[i]? = some p->rss[i]? = some r->H p=some (.tup (NV r))
theorem RowsT.same{H:Hp}(h:RowsT H ps rss)(e:Same H H1):RowsT H1 ps rss:=⟨h.1,λi p z a c=>e _ _ (h.2 i p z a c)⟩
theorem RowsT.snoc{H:Hp}(h:RowsT H ps rss)(e:H p=some (.tup (NV r))):RowsT H (ps++[p]) (rss++[r]):=by
 refine⟨by simp[h.1],λi q y a c=>?_⟩;rcases aG a with⟨l,a⟩|⟨l,a⟩
 ·rcases aG c with⟨_,c⟩|⟨l',c⟩
  ·exact h.2 i q y a c
  ·have:=h.1;lia
 ·rcases aG c with⟨l',c⟩|⟨_,c⟩
  ·have:=h.1;lia
  ·rw[a,c];exact e
def A5(rss:List (List Nat))(w b:Nat):Prop:=∀r∈rss,r.length=w/\∀x∈r,x<b
theorem pC{w:Nat}(h:A5 rss w b)(hr:rss[i]? = some r)(hc:c<w):r[c]? = some (r.getD c 0)/\(bS rss c)[i]? = some (r.getD c 0):=by
 have hl:=(h r (Hc hr)).1;constructor
 ·have:c<r.length:=by lia
  simp[this]
 ·unfold bS
  rw[GE,hr];rfl
theorem nM{w:Nat}(h:A5 rss w b)(hc:c<w):∀o∈bS rss c,o<b:=λo ho=>by
 obtain⟨r,hr,rfl⟩:=GX.mp ho;obtain⟨h1,h2⟩:=h r hr;have:c<r.length:=by lia
 apply h2;rw[GB,Gz this];exact GU this
theorem j5(rss:List (List Nat))(c:Nat):(bS rss c).length=rss.length:=by simp[bS]
def xF:Sp:=λvs H Q _=>∃(a:Addr) (os:List Nat) (b:Nat),vs=[.ref a,.int b]/\(H a=some (.lst (NV os))/\True)/\(∀o∈os,o<b)/\os.length<=200/\b<=64/\∀(l:Addr) H',H l=none->Same H H'->H' l=some (.lst (NV (cnt os b)))->Q (.ref l) H'
theorem g7 (T:Tx K mg t):FnOk P t.wd K mg t.bs CX0 1 t.mM t.mG ["row","base"] xF:=by
 refine T.ia.okQ sc_counts (λvs H Q E h=>?_) (λcdv A outer s H vs Q E hr h=>?_)
 ·obtain⟨a,os,b,rfl,_⟩:=h
  rfl
 ·obtain⟨a,os,b,rfl,ta,hob,hol,hb,k⟩:=h
  obtain⟨ta,_⟩:=ta
  ·refine⟨_,(ad (ar (i:=2) sc_counts.nd rfl (GI rfl) (ax wM (ba (ag af ac)) (qv 1)))
   (ad (bC Ha rfl (aE (K:=K) (qv 0)) (ah (i:=3) sc_counts.nd rfl (GI rfl)) (aj (qj (K:=K) (qv 2) (qv 3) af)))
   (aj (au (qv 2))))),?_⟩
   rw[show L2.start ["row","base","often","figure"] [PY a,PR b]=[some (PY a),some (PR b),none,none]from rfl];nofun;refine⟨az (by simp),λq0 hq0=>?_⟩;have s2:=(PV H).new (o:=.lst [PR 0]) hq0;have t0:(upd H q0 (.lst [PR 0])) q0=some (.lst [PR 0]):=aa;generalize upd H q0 (.lst [PR 0])=H2 at s2 t0;nofun;refine⟨q0,_,_,rfl,rfl,t0,by lia,by lia,az (by simp;lia),λm hm=>?_⟩;have efl:(GY ((b:Nat):Int).toNat [PR 0]).flatten=NV (cnt [] b):=by
    show(GY b [PR 0]).flatten=_
    rw[Jo,NV,L2.cnt,Hv];apply Kw (by simp);intro i h1 h2;simp
   rw[efl];have hmn:H m=none:=s2.free hm;have s3:=s2.new (o:=.lst (NV (cnt [] b))) hm;have tm:(upd H2 m (.lst (NV (cnt [] b)))) m=some (.lst (NV (cnt [] b))):=aa;generalize upd H2 m (.lst (NV (cnt [] b)))=H3 at s3 tm;nofun;refine⟨a,rfl,⟨_,PP (s3 _ _ ta)⟩,cI (a:=a) (xs:=NV os) (λi σ H'=>Same H H'/\H' m=some (.lst (NV (cnt (os.take i) b)))/\∃v,σ=[some (PY a),some (PR b),some (PY m),v]) ⟨s3,tm,none,rfl⟩ (λi σ H' _ h=>PP (h.1 _ _ ta)) ?_ ?_⟩
   ·rintro i x σ H4 hx ⟨s4,tm4,v,rfl⟩
    obtain⟨o,rfl,ho,hom,hi⟩:=aA hx;have hlt:=hob o hom;nofun;refine⟨m,_,_,_,rfl,rfl,PP tm4,by lia,gM (gb hlt),?_⟩;nofun;refine⟨_,_,rfl,rfl,?_⟩;refine kW tm4 (ng rfl (by rw[aw,bt];exact hlt)) ?_;refine⟨s4.own hmn,?_,_,rfl⟩;rw[aa,GS,ho];show some (HO.lst ((NV (cnt (os.take i) b)).set o (PR ((((os.take i).count o+1:Nat)):Int))))=some (HO.lst (NV (cnt (os.take i++[o]) b)))
    rw[qi,wV hlt]
   ·rintro σ H4 ⟨s4,tm4,v,rfl⟩
    rw[GJ (by rw[aw];exact GF _)]at tm4;nofun;exact k m H4 hmn s4 tm4
def xG:Sp:=λvs H Q _=>∃(a:Addr) (os:List Nat),vs=[.ref a]/\(H a=some (.lst (NV os))\/False)/\os.length<=64/\∀H',Same H H'->Q (.bl (dH os)) H'
theorem nN{os:List Nat}{o:Nat}(h:os[i]? = some o):nj (os.take (i+1))=nj (os.take i)++(if 0<o then[o]else[]):=by
 unfold nj;rw[GS,h,Nf];congr 1;simp only[MX];split<;>simp_all
theorem xH(os:List Nat)(i:Nat):(nj (os.take i)).length<=i:=by
 refine HJ (MD _ _) ?_;rw[G5];lia
theorem ft (T:Tx K mg t):FnOk P t.wd K mg t.bs CX0 1 t.gx t.gr ["often"] xG:=by
 refine T.eD.okQ nL (λvs H Q E h=>?_) (λcdv A outer s H vs Q E hr h=>?_)
 ·obtain⟨a,os,rfl,_⟩:=h
  rfl
 ·obtain⟨a,os,rfl,ha,hol,k⟩:=h
  have e9:decide (((nj os).length:Int) > 1)=dH os:=by
   unfold dH;exact decide_eq_decide.mpr ⋯
  rcases ha with ta|ta
  ·refine⟨_,(aj (au (oP wa (ap (aW (K:=K)) (by rfl) T.bv aR (ag (wR (N:=["many"]) (tgs:=["many"]) (frs:=[]) (ix:=[]) ⟨rfl,by decide +kernel,rfl,by decide +kernel,rfl,rfl,GL,GL,rfl⟩ rfl (aE (K:=K) (qv 0)) (λ_ _ _ _=>(ah (i:=0) (by show G4 (["many"]:List Str);decide +kernel) rfl (GI rfl))) (λ_ _ _ _=>(qv 0)) (λ_ _ _ _=>(aD wa (qv 0) af (aK _)))) ac)) af (aK _)))),?_⟩
   rw[show L2.start ["often"] [PY a]=[some (PY a)]from rfl];nofun;refine⟨a,rfl,⟨_,PP ta⟩,tV (a:=a) (vs:=NV os) (λi ys σ H'=>H'=H/\ys=NV (nj (os.take i))/\∃v,σ=[v]) (by rw[aw];exact am ⋯) (λi ys σ H' h=>by rw[h.2.1,aw];exact xH os i) (λi ys σ H' h=>by rw[h.1];exact PP ta) ⟨rfl,rfl,none,rfl⟩ ?_ ?_⟩
   ·rintro i ys σ H' x hx ⟨rfl,rfl,v,rfl⟩
    have hil:=aI hx;obtain⟨o,rfl,ho,_,_⟩:=aA hx;nofun;refine aS (λg=>?_) (λg=>?_)
    ·nofun
     refine PX hil ⟨rfl,?_,_,rfl⟩;rw[bJ,nN ho,if_pos ⋯]
    ·refine PX hil ⟨rfl,?_,_,rfl⟩
     rw[nN ho,if_neg ⋯,Ic]
   ·rintro ys σ H' ⟨rfl,rfl,v,rfl⟩ l hl
    rw[GJ (by rw[aw];exact GF _)];nofun;refine aH (PP aa) ?_;rw[aw];nofun;rw[e9];exact k _ ((PV H').new hl)
  ·exact ta.elim
def CD(K:GC):Sp:=λvs H Q _=>∃(a:Addr) (ps:List Addr) (rss:List (List Nat)) (w:Nat),vs=[.ref a]/\H a=some (.lst (ps.map PY))/\ps.length=rss.length/\(∀p,ps[0]? = some p->∃zs,(H p=some (.lst zs)\/H p=some (.tup zs))/\zs.length=w)/\Q (.int ((if rss=[]then 0 else w:Nat):Int)) H
theorem bU (T:Tx K mg t):FnOk P t.wd K mg t.bs CX0 1 t.dD t.dA ["rows"] (CD K):=by
 refine T.bK.okQ j4 (λvs H Q E h=>?_) (λcdv A outer s H vs Q E hr h=>?_)
 ·obtain⟨a,ps,rss,w,rfl,_⟩:=h
  rfl
 ·obtain⟨a,ps,rss,w,rfl,ta,hl,hw,k⟩:=h
  refine⟨_,(ad (bR (kX (ji (K:=K) (qv 0))) (aj (au af)) bi)
   (aj (au (ap (aW (K:=K)) (by rfl) T.bv aR (ag (aJ (bg (K:=K)) (qv 0) af) ac))))),?_⟩
  rw[show L2.start ["rows"] [PY a]=[some (PY a)]from rfl];nofun;refine⟨_,Ey (PP ta),?_⟩;cases ps with
  | nil=>
   have:rss=[]:=Ib.mp hl.symm;rw[if_pos this]at k;nofun;exact k
  | cons p r=>
   have:rss≠[]:=λz=>by rw[z]at hl;simp at hl
   rw[if_neg this]at k;obtain⟨zs,hz,hzl⟩:=hw p rfl;refine cr ?_;nofun;refine bB (PP ta) (v:=PY p) (aU (j:=0) rfl) ?_;nofun;refine⟨p,zs,rfl,hz.elim (λh=>.inl (PP h)) (λh=>.inr (PQ h)),?_⟩;rw[hzl];nofun;exact k
def Aq(K:GC):Sp:=λvs H Q _=>∃(a:Addr) (ps:List Addr) (rss:List (List Nat)) (w b:Nat),vs=[.ref a,.int b]/\H a=some (.lst (ps.map PY))/\RowsT H ps rss/\A5 rss w b/\rss.length<=60/\w<=200/\b<=64/\
 ∀(l:Addr) (qs:List Addr) H',H l=none->(∀q∈qs,H q=none)->l∉qs->Same H H'->H' l=some (.lst (qs.map PY))->LsAt H' qs (bI rss w b)->Q (.ref l) H'
theorem xI (T:Tx K mg t):FnOk P t.wd K mg t.bs CX0 2 t.pP t.pN ["rows","base"] (Aq K):=by
 refine T.vE.okQ xD (λvs H Q E h=>?_) (λcdv A outer s H vs Q E hr h=>?_)
 ·obtain⟨a,ps,rss,w,b,rfl,_⟩:=h
  rfl
 ·obtain⟨a,ps,rss,w,b,rfl,ta,hR,hG,hn,hw,hb,k⟩:=h
  have hpl:ps.length=rss.length:=hR.1;have hW:(if rss=[]then 0 else w)<=w:=by split<;>lia
  have hcols:∀p,ps[0]? = some p->∃zs,(H p=some (.lst zs)\/H p=some (.tup zs))/\zs.length=w:=λp hp=>by
   have h0:0<rss.length:=by rw[<-hpl];exact aI hp
   have hl:=(hG rss[0] (GU h0)).1;have e0:rss[0]? = some rss[0]:=by simp
   exact⟨_,.inr (hR.2 0 p _ hp e0),by rw[aw];exact hl⟩
  ·refine⟨_,(aj (au (wT (xc:="column") (N:=["column","rows","base"]) (tgs:=["column"]) (frs:=["rows","base"]) (ix:=[0,1]) ⟨rfl,λ_=>rfl,λ_=>rfl,rfl,by decide +kernel,rfl,rfl,⟨⟨rfl,rfl,_,rfl,rfl⟩,⟨rfl,rfl,_,rfl,rfl⟩,GL⟩,by decide +kernel,⟨rfl,rfl,GL⟩,rfl⟩ rfl (bT rfl T.bn (ag (ak (bU T) (hr.mono (by decide)) rfl T.cq T.bK.kp T.cn ay (ag (qv 0) ac)) ac)) (λ_ _ _ _=>(ah (i:=0) (by show G4 (["column","rows","base"]:List Str);decide +kernel) rfl (Iu rfl))) (λ_ _ _ _=>(ak (g7 T) (hr.mono (by decide)) rfl T.jt T.ia.kp T.js ay (ag (aN (N:=["row","column"]) (tgs:=["row"]) (frs:=["column"]) (ix:=[0]) ⟨rfl,by decide +kernel,rfl,by decide +kernel,rfl,rfl,⟨⟨rfl,rfl,_,rfl,rfl⟩,GL⟩,⟨rfl,GL⟩,rfl⟩ rfl (aE (K:=K) (qv 1)) (λ_ _ _ _=>(ah (i:=0) (by show G4 (["row","column"]:List Str);decide +kernel) rfl (GI rfl))) (λ_ _ _ _=>(aJ (gK (K:=K)) (qv 0) (qv 1)))) (ag (qv 2) ac))))))),?_⟩
   rw[show L2.start ["rows","base"] [PY a,PR b]=[some (PY a),some (PR b)]from rfl];nofun;refine⟨a,ps,rss,w,rfl,ta,hpl,hcols,?_⟩;nofun;refine⟨_,rfl,by lia,by lia,lC (n:=if rss=[]then 0 else w) (λi ys σ H'=>Same H H'/\(∃qs:List Addr,ys=qs.map PY/\qs.length=i/\LsAt H' qs ((bI rss w b).take i)/\∀q∈qs,H q=none)/\∃v,σ=[v,some (PY a),some (PR b)]) (am ⋯) (λi ys σ H' h=>by obtain⟨_,⟨qs,rfl,e,_⟩,_⟩:=h;rw[GA,e]) ⟨PV _,⟨[],rfl,rfl,LsAt.nil,λq h=>nomatch h⟩,none,rfl⟩ ?_ ?_⟩
   ·rintro c ys σ H1 hc ⟨s1,⟨qs,rfl,hql,hQ,hfr⟩,v,rfl⟩
    have hcw:c<w:=by lia
    rw[O0];nofun;refine⟨a,rfl,⟨_,PP (s1 _ _ ta)⟩,aF (a:=a) (vs:=ps.map PY) (λi ys σ H'=>H'=H1/\i<=rss.length/\ys=NV ((bS rss c).take i)/\∃v,σ=[v,some (PR c)]) (by rw[GA,hpl];exact am ⋯) (λi ys σ H' h=>by rw[h.2.2.1,aw,G5,j5];lia) (λi ys σ H' h=>by rw[h.1];exact PP (s1 _ _ ta)) ⟨rfl,GR _,rfl,none,rfl⟩ ?_ ?_⟩
    ·rintro i ys σ H' x hx ⟨rfl,_,rfl,v,rfl⟩
     have hil:=aI hx;obtain⟨p,rfl,hp,_,hi⟩:=aA hx;have hir:i<rss.length:=by rw[<-hpl];exact hi
     have er:rss[i]? = some rss[i]:=by simp[hir]
     obtain⟨g1,g2⟩:=pC hG er hcw;nofun;refine pY (PQ (s1 _ _ (hR.2 i p _ hp er))) (kI rfl g1) ?_;refine PX hil ⟨rfl,hir,?_,_,rfl⟩;rw[bJ,GS,g2];rfl
    ·rintro ys σ H' ⟨rfl,_,rfl,v,rfl⟩ z hz
     rw[GJ (by rw[j5,GA,hpl];exact GF _)];have s2:=s1.new (o:=.lst (NV (bS rss c))) hz;have tz:(upd H' z (.lst (NV (bS rss c)))) z=some (.lst (NV (bS rss c))):=aa;have s12:=(PV H').new (o:=.lst (NV (bS rss c))) hz;generalize upd H' z (.lst (NV (bS rss c)))=H2 at s2 tz s12;nofun;refine⟨z,bS rss c,b,rfl,⟨tz,trivial⟩,nM hG hcw,by rw[j5];lia,hb,λl H3 hl s3 tl=>?_⟩;refine PX hc ⟨s2.trans s3,⟨qs++[l],by rw[GM];rfl,by simp[hql],?_,λq hq=>?_⟩,_,rfl⟩
     ·rw[rA hc]
      exact(hQ.same (s12.trans s3)).snoc tl
     ·rcases G9.mp hq with g|g
      ·exact hfr q g
      ·rw[G1.mp g];exact s2.free hl
   ·rintro ys σ H1 ⟨s1,⟨qs,rfl,hql,hQ,hfr⟩,v,rfl⟩ l hl
    rw[GJ (by rw[jH];exact GF _)]at hQ;refine k l qs _ (s1.free hl) hfr (λhq=>?_) (s1.new hl) aa (hQ.same ((PV H1).new hl));obtain⟨ns,_,e⟩:=hQ.some hq;rw[hl]at e;cases e
def Ar:Sp:=λvs H Q _=>∃(a:Addr) (ps:List Addr) (tss:List (List Nat)),vs=[.ref a]/\((H a=some (.lst (ps.map PY))/\LsAt H ps tss)\/(False/\RowsT H ps tss))/\tss.length<=200/\(∀r∈tss,r.length<=64)/\
 ∀(t l:Addr) H',H l=none->H t=none->Same H H'->H' t=some (.tup [.ref l,.int (yy tss:Nat)])->H' l=some (.lst (NV (dn tss)))->Q (.ref t) H'
theorem u9(tss:List (List Nat)):(dn tss).length<=tss.length:=by rw[<-nn];exact nq _
theorem i8 (T:Tx K mg t):FnOk P t.wd K mg t.bs CX0 2 t.c9 t.cY ["tally"] Ar:=by
 refine T.fx.okQ sc_ahead_of_last (λvs H Q E h=>?_) (λcdv A outer s H vs Q E hr h=>?_)
 ·obtain⟨a,ps,tss,rfl,_⟩:=h
  rfl
 ·obtain⟨a,ps,tss,rfl,hR,hn,hr',k⟩:=h
  rcases hR with⟨ta,hR⟩|⟨ta,hR⟩
  ·have hpl:ps.length=tss.length:=hR.1
   refine⟨_,(ad (zL (i:=1) (N:=["column","tally"]) (tgs:=["column"]) (frs:=["tally"]) (ix:=[0])  sc_ahead_of_last.nd rfl (GI rfl) ⟨rfl,by decide +kernel,rfl,by decide +kernel,rfl,rfl,⟨⟨rfl,rfl,_,rfl,rfl⟩,GL⟩,⟨rfl,GL⟩,rfl⟩ rfl (jI rfl T.bn (ag (ax cK (ap (aW (K:=K)) (by rfl) T.bv aR (ag (qv 0) ac)) af) (ag (jz jC af) (ag (jz jC af) ac)))) (λ_ _ _ _=>(ah (i:=0) (by show G4 (["column","tally"]:List Str);decide +kernel) rfl (GI rfl))) (λ_ _ _ _=>(qv 0)) (λ_ _ _ _=>(ff (ak (ft T) (hr.mono (by decide)) rfl T.gA T.eD.kp T.gp ay (ag (aJ (bg (K:=K)) (qv 1) (qv 0)) ac)))))
   (aj (au (aT (ag (qv 1) (ag (ap (jD (K:=K) rfl) (by rfl) T.kP j2 (ag (aN (N:=["column","tally"]) (tgs:=["column"]) (frs:=["tally"]) (ix:=[0]) ⟨rfl,by decide +kernel,rfl,by decide +kernel,rfl,rfl,⟨⟨rfl,rfl,_,rfl,rfl⟩,GL⟩,⟨rfl,GL⟩,rfl⟩ rfl (aE (K:=K) (qv 1)) (λ_ _ _ _=>(ah (i:=0) (by show G4 (["column","tally"]:List Str);decide +kernel) rfl (GI rfl))) (λ_ _ _ _=>(ap (jD (K:=K) rfl) (by rfl) T.kP j2 (ag (aJ (bg (K:=K)) (qv 1) (qv 0)) ac)))) ac)) ac)))))),?_⟩
   rw[show L2.start ["tally","columns"] [PY a]=[some (PY a),none]from rfl];nofun;refine aH (PP ta) ?_;rw[GA,hpl];nofun;refine⟨_,rfl,by lia,tX (n:=tss.length) (λi ys σ H'=>Same H H'/\ys=NV (nk tss i)/\∃v,σ=[v,some (PY a)]) (am ⋯) (λi ys σ H' h=>by rw[h.2.1,aw];exact nq i) ⟨PV _,rfl,none,rfl⟩ (λi ys σ H' hi _=>hi) (λys σ H' _=>GF _) ?_ ?_⟩
   ·rintro i x ys σ H1o H1 hi ⟨s1,rfl,v,rfl⟩ ⟨rfl,rfl⟩
    have esc:=rB hi;have hcm:tss.length - 1 - i<tss.length:=by lia
    generalize tss.length - 1 - i=c at hcm esc;have hcp:c<ps.length:=by lia
    have eg:tss.getD c []=tss[c]:=by rw[GB,Gz hcm];rfl
    rw[eg]at esc;nofun;refine bB (PP (s1 _ _ ta)) (v:=PY ps[c]) (aU (by rw[GE];simp[hcp])) ?_;refine⟨ps[c],tss[c],rfl,.inl (s1 _ _ (hR.2 c _ _ (by simp[hcp]) (by simp[hcm]))),hr' _ (GU hcm),λH2 s2=>?_⟩;nofun;by_cases hp:dH tss[c]=true
    ·rw[if_pos hp]at esc ⊢
     nofun;refine PX hi ⟨s1.trans s2,?_,_,rfl⟩;rw[bJ,esc]
    ·rw[if_neg hp]at esc ⊢
     refine PX hi ⟨s1.trans s2,?_,_,rfl⟩;rw[esc,Ic]
   rintro ys σ H1 ⟨s1,rfl,v,rfl⟩ l hl;rw[nn];have hcl:=u9 tss;have hln:H l=none:=s1.free hl;have s2:=s1.new (o:=.lst (NV (dn tss))) hl;have tl:(upd H1 l (.lst (NV (dn tss)))) l=some (.lst (NV (dn tss))):=aa;generalize upd H1 l (.lst (NV (dn tss)))=H2 at s2 tl;nofun;refine⟨l,rfl,⟨_,PP tl⟩,aF (a:=l) (vs:=NV (dn tss)) (λi ys σ H'=>H'=H2/\i<=(dn tss).length/\ys=NV (((dn tss).map λc=>(tss.getD c []).sum).take i)/\∃v,σ=[v,some (PY a)]) (by rw[aw];exact am ⋯) (λi ys σ H' h=>by rw[h.2.2.1,aw,G5,GA];lia) (λi ys σ H' h=>by rw[h.1];exact PP tl) ⟨rfl,GR _,rfl,none,rfl⟩ ?_ ?_⟩
   ·rintro i ys σ H' x hx ⟨rfl,_,rfl,v,rfl⟩
    have hil:=aI hx;obtain⟨c,rfl,hc,hcmm,hi⟩:=aA hx;have hcm:=t5 hcmm;have hcp:c<ps.length:=by lia
    have eg:tss.getD c []=tss[c]:=by rw[GB,Gz hcm];rfl
    nofun;refine bB (PP (s2 _ _ ta)) (v:=PY ps[c]) (aU (by rw[GE];simp[hcp])) ?_;nofun;refine iS (ns:=tss[c].map λx:Nat=>(x:Int)) (PP (by rw[<-k4];exact s2 _ _ (hR.2 c _ _ (by simp[hcp]) (by simp[hcm])))) ?_;rw[gQ];refine PX hil ⟨rfl,hi,?_,_,rfl⟩;rw[bJ,GS,GE,hc];show _=NV (_++[(tss.getD c []).sum])
    rw[eg]
   rintro ys σ H' ⟨rfl,_,rfl,v,rfl⟩ z hz;rw[GJ (by rw[aw,GA];exact GF _)];have s3:=s2.new (o:=.lst (NV ((dn tss).map λc=>(tss.getD c []).sum))) hz;have tl3:(upd H' z (.lst (NV ((dn tss).map λc=>(tss.getD c []).sum)))) l=some (.lst (NV (dn tss))):=by rw[ai (ae tl hz)];exact tl
   have tz:(upd H' z (.lst (NV ((dn tss).map λc=>(tss.getD c []).sum)))) z=some (.lst (NV ((dn tss).map λc=>(tss.getD c []).sum))):=aa;generalize upd H' z (.lst (NV ((dn tss).map λc=>(tss.getD c []).sum)))=H3 at s3 tl3 tz;nofun;refine iS (ns:=((dn tss).map λc=>(tss.getD c []).sum).map λx:Nat=>(x:Int)) (PP (by rw[<-k4];exact tz)) ?_;rw[gQ];nofun;exact⟨az (by simp),λt ht=>k t l _ hln (s3.free ht) (s3.new ht) aa (by rw[ai (ae tl3 ht)];exact tl3)⟩
  ·exact ta.elim
noncomputable def bgs(rss:List (List Nat))(c:Nat):List (List Int):=rss.map λr=>bE (r.take c)
def PairsAt(H:Hp)(as qs:List Addr)(zs:List (List Int×Int)):Prop:=as.length=zs.length/\qs.length=zs.length/\∀(i:Nat) a q z,as[i]? = some a->qs[i]? = some q->zs[i]? = some z->H a=some (.tup [.ref q,.int z.2])/\H q=some (.tup (z.1.map PR))
theorem PairsAt.same{H:Hp}{as:List Addr}{zs:List (List Int×Int)}(h:PairsAt H as qs zs)(s:Same H H'):PairsAt H' as qs zs:=⟨h.1,h.2.1,λi a q z e1 e2 e3=>⟨s _ _ (h.2.2 i a q z e1 e2 e3).1,s _ _ (h.2.2 i a q z e1 e2 e3).2⟩⟩
theorem xJ(h:rss[i]? = some r):bgs (rss.take (i+1)) c=bgs (rss.take i) c++[bE (r.take c)]:=by
 unfold bgs;rw[GS,h,GM];rfl
theorem yH:(iW (bE r)).map kV=NV r:=by rw[pk,k4];rfl
def CF(K:GC):Sp:=λvs H Q _=>∃(a:Addr) (ps:List Addr) (rss:List (List Nat)) (c w:Nat),vs=[.ref a,.int c]/\H a=some (.lst (ps.map PY))/\RowsT H ps rss/\(∀r∈rss,r.length=w)/\c<=w/\w<=200/\rss.length<=60/\
 ∀(d:Addr) (as qs:List Addr) (zs:List (List Int×Int)) H',H d=none->Same H H'->H' d=some (.lst (as.map PY))->PairsAt H' as qs zs->Bgs (bgs rss c) zs->Q (.ref d) H'
theorem mj (T:Tx K mg t):FnOk P t.wd K mg t.bs CX0 1 t.fJ t.fE ["rows","column"] (CF K):=by
 refine T.iX.okQ sc_beginnings (λvs H Q E h=>?_) (λcdv A outer s H vs Q E hr h=>?_)
 ·obtain⟨a,ps,rss,c,w,rfl,_⟩:=h
  rfl
 ·obtain⟨a,ps,rss,c,w,rfl,ta,hR,hw,hcw,hw1,hn,q⟩:=h
  have hpl:ps.length=rss.length:=hR.1;have fin:∀(o:Addr) (H1:Hp) (cs:List (List Int×Int)) (Q':VK),H o=none->Same H H1->H1 o=some (.dT (cs.map dTf))->Cn (bgs rss c) cs->cs.length<=rss.length->(∀v H2,Q v H2->Q' v H2)->∃(a:Addr) (ps:List (List Int×Int)),PY o=.ref a/\H1 a=some (.dT (ps.map λq=>(iW q.1,PR q.2)))/\ps.length<64/\
    ∀(d:Addr) (as qs:List Addr) (zs:List (List Int×Int)) H',H1 d=none->Same H1 H'->H' d=some (.lst (as.map PY))->as.length=zs.length->qs.length=zs.length->zs.Perm ps->zs.Pairwise (λy z=>HT.aY z.1 y.1=false)->
     (∀(i:Nat) a q z,as[i]? = some a->qs[i]? = some q->zs[i]? = some z->H' a=some (.tup [.ref q,.int z.2])/\H' q=some (.tup (z.1.map PR)))->Q' (.ref d) H':=λo H1 cs Q' ho s1 to hC hl hQ=>
   ⟨o,cs,rfl,to,by lia,λd as qs zs H' hd s2 td l1 l2 hp hs hz=>hQ _ _ (q d as qs zs H' (s1.free hd) (s1.trans s2) td ⟨l1,l2,hz⟩ (hC.bgs hp hs))⟩
  ·refine⟨_,(ad (ar (i:=2) sc_beginnings.nd rfl (GI rfl) qC)
   (ad (bC Ha rfl (aE (K:=K) (qv 0)) (ah (i:=3) sc_beginnings.nd rfl (GI rfl)) (ad (ar (i:=4) sc_beginnings.nd rfl (GI rfl) (aP (bL (K:=K)) (by rfl) T.bA bu (ag (cJ yB (qv 3) oQ (bN (qv 1))) ac)))
   (aj (uw (oK hr) (qv 2) (qv 4) (ax ca (lY (oK hr) (qv 2) (qv 4) af) af)))))
   (aj (au (uP rfl hr.units rfl T.ij (qv 2)))))),?_⟩
   rw[show L2.start ["rows","column","often","row","beginning"] [PY a,PR c]=[some (PY a),some (PR c),none,none,none]from rfl];nofun;intro o ho;have s1:=(PV H).new (o:=.dT []) ho;have to:(upd H o (.dT [])) o=some (.dT (([]:List (List Int×Int)).map dTf)):=aa;generalize upd H o (.dT [])=H1 at s1 to;nofun;refine⟨a,rfl,⟨_,PP (s1 _ _ ta)⟩,cI (a:=a) (xs:=ps.map PY) (λi σ H2=>Same H H2/\(∃cs:List (List Int×Int),H2 o=some (.dT (cs.map dTf))/\Cn (bgs (rss.take i) c) cs/\cs.length<=i)/\∃v x,σ=[some (PY a),some (PR c),some (PY o),v,x]) ⟨s1,⟨[],to,by rw[MN];exact Cn.nil,GF _⟩,_,_,rfl⟩ (λi σ H2 _ h=>PP (h.1 _ _ ta)) ?_ ?_⟩
   ·rintro i x σ H2 hx ⟨s2,⟨cs,to2,hC,hcl⟩,v,x',rfl⟩
    obtain⟨p,rfl,hp,_,hi⟩:=aA hx;have hir:i<rss.length:=by lia
    have er:rss[i]? = some rss[i]:=by simp[hir]
    have tp:=s2 _ _ (hR.2 i p rss[i] hp er);have hrl:rss[i].length=w:=hw _ (GU _);rw[xJ er];generalize rss[i]=r at tp hrl;nofun;refine⟨_,rfl,p,_,rfl,tp,λb H3 s3 tb=>?_⟩;rw[tW _ _ ⋯]at tb;have to3:=s3 _ _ to2;nofun;refine⟨b,_,rfl,.inr ⟨PQ tb,?_⟩⟩;nofun;refine⟨o,rfl,.inr ⟨_,.inl to3⟩,?_⟩;nofun;obtain⟨m,cs',e1,e2,hC',hl'⟩:=hC.step (bE (r.take c));refine⟨_,DGet.t to3 (k:=iW (bE (r.take c))) (by rw[yH];exact tb),?_⟩;rw[e1];nofun;refine⟨o,_,rfl,DPut.t to3 (k:=iW (bE (r.take c))) (by rw[yH];exact tb) (by rw[GA];exact am ⋯),?_⟩;rw[e2];exact⟨(s2.trans s3).own ho,⟨cs',aa,hC',by lia⟩,_,_,rfl⟩
   ·rintro σ H2 ⟨s2,⟨cs,to2,hC,hcl⟩,v,x',rfl⟩
    rw[GA]at hC hcl;rw[GJ ⋯]at hC;nofun;exact fin o H2 cs _ ho s2 to2 hC ⋯ λ_ _ z=>z
def PrAt(H:Hp)(qs:List Addr)(ws:List (Nat×Nat)):Prop:=qs.length=ws.length/\∀(i:Nat) q s,qs[i]? = some q->ws[i]? = some s->H q=some (.tup [.int (s.1:Nat),.int (s.2:Nat)])
theorem PrAt.same{H:Hp}{ws:List (Nat×Nat)}(h:PrAt H qs ws)(s:Same H H1):PrAt H1 qs ws:=⟨h.1,λi q t a b=>s _ _ (h.2 i q t a b)⟩
theorem PrAt.own{H:Hp}{ws:List (Nat×Nat)}(h:PrAt H qs ws)(hl:H l=some (.lst xs)):PrAt (upd H l (.lst ys)) qs ws:=⟨h.1,λi q t a b=>by
 have e:=h.2 i q t a b;rw[ai (dU e hl (by intro c;cases c))];exact e⟩
theorem PrAt.snoc{H:Hp}{ws:List (Nat×Nat)}{s:Nat×Nat}(h:PrAt H qs ws)(e:H q=some (.tup [.int (s.1:Nat),.int (s.2:Nat)])):PrAt H (qs++[q]) (ws++[s]):=by
 refine⟨by simp[h.1],λi p y a b=>?_⟩;rcases aG a with⟨l,a⟩|⟨l,a⟩
 ·rcases aG b with⟨_,b⟩|⟨l',b⟩
  ·exact h.2 i p y a b
  ·have:=h.1;lia
 ·rcases aG b with⟨l',b⟩|⟨_,b⟩
  ·have:=h.1;lia
  ·rw[a,b];exact e
theorem PrAt.nil{H:Hp}:PrAt H [] []:=⟨rfl,λi q s h=>by simp at h⟩
theorem TrAt.nil{H:Hp}:TrAt H [] []:=⟨rfl,λi q s h=>by simp at h⟩
theorem jr(h:rss[i]? = some r):rss.getD i []=r:=by rw[GB,h];rfl
def CG:Sp:=λvs H Q _=>∃(a:Addr) (ps:List Addr) (rss:List (List Nat)),vs=[.ref a]/\H a=some (.lst (ps.map PY))/\RowsT H ps rss/\rss.length<=60/\∀(l:Addr) H',H l=none->Same H H'->H' l=some (.lst (NV (bo rss rss.length)))->Q (.ref l) H'
theorem vc (T:Tx K mg t):FnOk P t.wd K mg t.bs CX0 1 t.vS t.vM ["rows"] CG:=by
 refine T.vD.okQ sc_runs (λvs H Q E h=>?_) (λcdv A outer s H vs Q E hr h=>?_)
 ·obtain⟨a,ps,rss,rfl,_⟩:=h
  rfl
 ·obtain⟨a,ps,rss,rfl,ta,hR,hn,k⟩:=h
  have hpl:ps.length=rss.length:=hR.1;refine⟨_,(ad (ar (i:=1) sc_runs.nd rfl (GI rfl) (ba ac))
   (ad (bC Ha rfl (nc (K:=K) rfl T.df (ag (qv 0) ac)) (bp (K:=K) (n:=2) rfl (aq (ah (i:=2) sc_runs.nd rfl (GI rfl)) (aq (ah (i:=3) sc_runs.nd rfl (GI rfl)) aQ))) (aj (bR (QW.qt (yq (aD wa (qv 2) af (aK _)) (tJ (aD (Cc (K:=K) hr.units0) (aP (bL (K:=K)) (by rfl) T.bA bu (ag (aJ (bg (K:=K)) (qv 0) (ax cK (qv 2) af)) ac)) (aP (bL (K:=K)) (by rfl) T.bA bu (ag (qv 3) ac)) (aK _))))) (aj (xa (K:=K) (qv 1) (jz jC af) af)) (aj (bx (be (K:=K) (qv 1) (ag af ac)))))))
   (aj (au (qv 1))))),?_⟩
  rw[show L2.start ["rows","lengths","place","row"] [PY a]=[some (PY a),none,none,none]from rfl];nofun;refine⟨az (by simp),λl hl=>?_⟩;have s1:=(PV H).new (o:=.lst []) hl;have tl:(upd H l (.lst [])) l=some (.lst (NV (bo rss 0))):=aa;generalize upd H l (.lst [])=H1 at s1 tl;nofun;refine⟨a,rfl,⟨_,PP (s1 _ _ ta)⟩,jF (n:=rss.length) (λi σ H'=>Same H H'/\H' l=some (.lst (NV (bo rss i)))/\∃v w,σ=[some (PY a),some (PY l),v,w]) ⟨s1,tl,none,none,rfl⟩ ?_ ?_ ?_ ?_⟩
  ·rintro i σ H2 hi ⟨s2,_⟩
   have hip:i<ps.length:=by lia
   exact⟨_,_,PP (s2 _ _ ta),by rw[GE,Gz hip];rfl⟩
  ·rintro σ H2 ⟨s2,_⟩
   exact⟨_,PP (s2 _ _ ta),by rw[GA];exact hpl⟩
  ·rintro i x σ H2 H3 hi ⟨s2,t2,v,w,rfl⟩ ⟨q,x1,rfl,hq,rfl,hx1⟩
   have hx2:=hx1 _ (PP (s2 _ _ ta));obtain⟨p,rfl,hp,hpm,hip⟩:=aA hx2;refine aV aa ?_;dsimp only[HV];have s3:=s2.new (o:=.tup [PR (i:Nat),PY p]) hq;have t3:(upd H2 q (.tup [PR (i:Nat),PY p])) l=some (.lst (NV (bo rss i))):=by rw[ai (ae t2 hq)];exact t2
   generalize upd H2 q (.tup [PR (i:Nat),PY p])=H3 at s3 t3;have hlr:=jQ rss i;nofun;refine aS (λg=>?_) (λg=>?_)
   ·have hi0:0<i:=by lia
    have e1:(i:Int) - 1=((i - 1:Nat):Int):=by lia
    have hip1:i - 1<ps.length:=by lia
    have ei:rss[i]? = some rss[i]:=by simp[hi]
    have ei1:rss[i - 1]? = some (rss[i - 1]'⋯):=Gz _;have tp:=s3 _ _ (hR.2 i p rss[i] hp ei);have tp1:=s3 _ _ (hR.2 (i - 1) ps[i - 1] _ (by simp[hip1]) ei1);nofun;rw[e1];refine bB (PP (s3 _ _ ta)) (v:=PY ps[i - 1]) (aU (by rw[GE,Gz hip1];rfl)) ?_;nofun;refine⟨_,_,rfl,.inr ⟨PQ tp1,?_⟩⟩;nofun;refine⟨p,_,rfl,.inr ⟨PQ tp,?_⟩⟩;refine yz (ns:=bE _) (ms:=bE _) (PQ (by rw[<-bM];exact tp1)) (PQ (by rw[<-bM];exact tp)) ?_;have ev:HT.eZ (bE (rss[i - 1]'⋯)) (bE rss[i])=!brk rss i:=by
     rw[HT.nr];unfold brk lxt;rw[jr ei,jr ei1]
    rw[ev];nofun;cases hb:brk rss i with
    | false=>
     nofun;obtain⟨i',rfl⟩:∃i',i=i'+1:=⟨i - 1,by lia⟩
     obtain⟨ys,z,ez⟩:=o9 (jP rss i');have er:bo rss (i'+1+1)=ys++[z+1]:=by rw[bo,if_pos ⟨hi0,hb⟩,ez,jO]
     rw[ez]at t3;refine⟨l,_,PR (z:Nat),rfl,rfl,PP t3,by rw[<-bJ,List.getLast?_concat],?_⟩;nofun;refine⟨_,_,rfl,rfl,?_⟩;refine kW t3 (j:=ys.length) (by rw[aw,GZ,HX];unfold ixN;rw[if_neg (by decide),if_pos ⋯];congr 1;lia) ?_;refine⟨s3.own hl,?_,_,_,rfl⟩;rw[aa,er];show some (HO.lst ((NV (ys++[z])).set ys.length (PR ((z+1:Nat):Int))))=_
     rw[qi];simp
    | true=>
     refine cr ?_;nofun;refine⟨aX t3,?_⟩;nofun;refine aL t3 (by rw[aw];exact am ⋯) ?_;refine⟨s3.own hl,?_,_,_,rfl⟩;rw[aa,bo,if_neg (λz=>by rw[hb]at z;exact Bool.noConfusion z.2)];exact congrArg (λz=>some (HO.lst z)) (bJ (bo rss i) 1)
   ·have hi0:i=0:=by lia
    subst hi0;nofun;refine⟨aX t3,?_⟩;nofun;refine aL t3 (by rw[aw];exact am ⋯) ?_;refine⟨s3.own hl,?_,_,_,rfl⟩;rw[aa];have e1:bo rss (0+1)=[1]:=by show(if 0<0/\brk rss 0=false then A3 (bo rss 0)else bo rss 0++[1])=[1];rw[if_neg ⋯];rfl
    rw[e1];rfl
  ·rintro σ H2 ⟨s2,t2,v,w,rfl⟩
   nofun;exact k l H2 hl s2 t2
def As:Sp:=λvs H Q _=>∃(a:Addr) (ls:List Nat),vs=[.ref a]/\(H a=some (.lst (NV ls))\/False)/\ls.length<=200/\
 ∀(t st bh:Addr) (qs:List Addr) H',H st=none->H bh=none->Same H H'->H' t=some (.tup [.ref st,.ref bh])->H' st=some (.lst (qs.map PY))->TrAt H' qs (rnd 0 ls).1->H' bh=some (.lst (NV (rnd 0 ls).2))->Q (.ref t) H'
theorem ve{ls:List Nat}(h:2*i<ls.length):(∃a b r,ls.drop (2*i)=a::b::r/\ls.drop (2*(i+1))=r)\/∃a,ls.drop (2*i)=[a]/\ls.drop (2*(i+1))=[]:=by
 have hd:ls.drop (2*(i+1))=(ls.drop (2*i)).drop 2:=by rw[Ke];congr 1
 have hl:(ls.drop (2*i)).length=ls.length - 2*i:=Ig ..;rw[hd];generalize ls.drop (2*i)=rem at hl
 match rem,hl with
 | [],hl=>simp at hl;lia
 | [a],_=>exact .inr ⟨a,rfl,rfl⟩
 | a::b::r,_=>exact .inl ⟨a,b,r,rfl,rfl⟩
theorem i9 (T:Tx K mg t):FnOk P t.wd K mg t.bs CX0 1 t.dc t.c7 ["lengths"] As:=by
 refine T.fz.okQ sc_merging_round (λvs H Q E h=>?_) (λcdv A outer s H vs Q E hr h=>?_)
 ·obtain⟨a,ls,rfl,_⟩:=h
  rfl
 ·obtain⟨a,ls,rfl,hta,hn,k⟩:=h
  rcases hta with ta|ta
  ·refine⟨_,(ad (ar (i:=1) sc_merging_round.nd rfl (GI rfl) (ba ac))
   (ad (ar (i:=2) sc_merging_round.nd rfl (GI rfl) (ba ac))
   (ad (ar (i:=3) sc_merging_round.nd rfl (GI rfl) af)
   (ad (bC Ha rfl (uc rfl T.bn (ag af (ag (ap (aW (K:=K)) (by rfl) T.bv aR (ag (qv 0) ac)) (ag af ac)))) (ah (i:=4) sc_merging_round.nd rfl (GI rfl)) (ad (ar (i:=5) sc_merging_round.nd rfl (GI rfl) (cJ (oS (K:=K)) (qv 0) (bN (qv 4)) (bN (ax ca (qv 4) af))))
   (ad (ar (i:=6) sc_merging_round.nd rfl (GI rfl) (ax ca (qv 3) (ap (jD (K:=K) rfl) (by rfl) T.kP j2 (ag (qv 5) ac))))
   (ad (bR (aD v0 (ap (aW (K:=K)) (by rfl) T.bv aR (ag (qv 5) ac)) af (aK _)) (aj (bx (be (K:=K) (qv 1) (ag (aT (ag (qv 3) (ag (ax ca (qv 3) (aJ (bg (K:=K)) (qv 5) af)) (ag (qv 6) ac)))) ac)))) bi)
   (ad (bx (be (K:=K) (qv 2) (ag (ax cK (qv 6) (qv 3)) ac)))
   (aj (ar (i:=3) sc_merging_round.nd rfl (GI rfl) (qv 6))))))))
   (aj (au (aT (ag (qv 1) (ag (qv 2) ac))))))))),?_⟩
   rw[show L2.start ["lengths","steps","behind","first","at","both","last"] [PY a]=[some (PY a),none,none,none,none,none,none]from rfl];nofun;refine⟨az (by simp),λst hst=>?_⟩;have s1:=(PV H).new (o:=.lst []) hst;have ts1:(upd H st (.lst [])) st=some (.lst (([]:List Addr).map PY)):=aa;generalize upd H st (.lst [])=H1 at s1 ts1;nofun;refine⟨az (by simp),λbh hbh=>?_⟩;have hbn:H bh=none:=s1.free hbh;have hsb:st≠bh:=ae ts1 hbh;have s2:=s1.new (o:=.lst []) hbh;have ts2:(upd H1 bh (.lst [])) st=some (.lst (([]:List Addr).map PY)):=by rw[ai hsb];exact ts1
   have tb2:(upd H1 bh (.lst [])) bh=some (.lst (NV [])):=aa;generalize upd H1 bh (.lst [])=H2 at s2 ts2 tb2;nofun;refine aH (PP (s2 _ _ ta)) ?_;rw[aw];nofun;refine⟨ls.length,rfl,by lia,jF (n:=(ls.length+1) / 2) (λi σ H'=>Same H H'/\(∃(ss:List eS) (qs:List Addr) (bs:List Nat) (f:Nat),H' st=some (.lst (qs.map PY))/\TrAt H' qs ss/\H' bh=some (.lst (NV bs))/\(rnd 0 ls).1=ss++(rnd f (ls.drop (2*i))).1/\(rnd 0 ls).2=bs++(rnd f (ls.drop (2*i))).2/\∃v4 v5 v6,σ=[some (PY a),some (PY st),some (PY bh),some (PR (f:Nat)),v4,v5,v6])) ⟨s2,[],[],[],0,ts2,TrAt.nil,tb2,rfl,rfl,_,_,_,rfl⟩ (λi σ H' hi _=>hi) (λσ H' _=>GF _) ?_ ?_⟩
   ·rintro i x σ H3o H3 hi ⟨s3,ss,qs,bs,f,ts3,T3,tb3,e1,e2,v4,v5,v6,rfl⟩ ⟨rfl,rfl⟩
    have h2i:2*i<ls.length:=by lia
    have hlen:=jM 0 ls;have hsl:ss.length<=ls.length:=by have:=congrArg Jz e1;rw[GZ]at this;lia
    have hbl:bs.length<=ls.length:=by have:=congrArg Jz e2;rw[GZ]at this;lia
    have hql:qs.length=ss.length:=T3.1;have ek:((2*i:Nat):Int)+2=((2*i+2:Nat):Int):=by lia
    nofun;refine⟨_,rfl,?_⟩;nofun;rw[ek];refine⟨_,rfl,?_⟩;refine An (s3 _ _ ta) λz H4 s4 tz=>?_
    rw[zR ls h2i]at tz;have ts4:=s4 _ _ ts3;have T4:=T3.same s4;have tb4:=s4 _ _ tb3;rcases ve h2i with⟨p,q,r,er,er'⟩|⟨p,er,er'⟩
    ·rw[er,iz]at e1 e2
     rw[er]at tz;have etk:(p::q::r).take 2=[p,q]:=rfl;rw[etk]at tz;nofun;refine iS (ns:=[p,q].map λx:Nat=>(x:Int)) (PP (by rw[<-k4];exact tz)) ?_;rw[gQ];have es:(f:Int)+(([p,q].sum:Nat):Int)=((f+p+q:Nat):Int):=by simp;lia
     nofun;rw[es];nofun;refine aH (PP tz) ?_;nofun;refine m8 rfl ?_;nofun;refine⟨aX ts4,?_⟩;nofun;have ep:(f:Int)+((p:Nat):Int)=((f+p:Nat):Int):=by lia
     rw[ep];refine⟨az (by simp),λu hu=>?_⟩;have s5:=(PV H4).new (o:=.tup [PR (f:Nat),PR ((f+p:Nat):Int),PR ((f+p+q:Nat):Int)]) hu;have tu:(upd H4 u (.tup [PR (f:Nat),PR ((f+p:Nat):Int),PR ((f+p+q:Nat):Int)])) u=some (.tup [PR (f:Nat),PR ((f+p:Nat):Int),PR ((f+p+q:Nat):Int)]):=aa;generalize upd H4 u (.tup [PR (f:Nat),PR ((f+p:Nat):Int),PR ((f+p+q:Nat):Int)])=H5 at s5 tu;nofun;refine aL (s5 _ _ ts4) (by rw[GA,hql];exact am ⋯) ?_;have s6:=(s3.trans (s4.trans s5)).own (o:=.lst (qs.map PY++[PY u])) hst;have ts6:(upd H5 st (.lst (qs.map PY++[PY u]))) st=some (.lst ((qs++[u]).map PY)):=by rw[aa,GM];rfl
     have tb6:(upd H5 st (.lst (qs.map PY++[PY u]))) bh=some (.lst (NV bs)):=by rw[ai (Hx hsb)];exact s5 _ _ tb4
     have T6:TrAt (upd H5 st (.lst (qs.map PY++[PY u]))) (qs++[u]) (ss++[(f,f+p,f+p+q)]):=((T4.same s5).snoc tu).own (s5 _ _ ts4);generalize upd H5 st (.lst (qs.map PY++[PY u]))=H6 at s6 ts6 tb6 T6;nofun;refine⟨aX tb6,?_⟩;have ed:((f+p+q:Nat):Int) - ((f:Nat):Int)=((p+q:Nat):Int):=by lia
     nofun;rw[ed];refine aL tb6 (by rw[aw];exact am ⋯) ?_;rw[bJ];nofun;refine⟨s6.own hbn,ss++[(f,f+p,f+p+q)],qs++[u],bs++[p+q],f+p+q,by rw[ai hsb];exact ts6,T6.own tb6,aa,?_,?_,_,_,_,rfl⟩
     ·rw[er',HY];exact e1
     ·rw[er',HY];exact e2
    ·rw[er,iA]at e1 e2
     rw[er]at tz;have etk:[p].take 2=[p]:=rfl;rw[etk]at tz;nofun;refine iS (ns:=[p].map λx:Nat=>(x:Int)) (PP (by rw[<-k4];exact tz)) ?_;rw[gQ];have es:(f:Int)+(([p].sum:Nat):Int)=((f+p:Nat):Int):=by simp
     nofun;rw[es];nofun;refine aH (PP tz) ?_;nofun;refine gI (λz=>absurd (PR.inj z) (by show ¬(((1:Nat):Int)=2);decide)) ?_;nofun;refine⟨aX tb4,?_⟩;have ed:((f+p:Nat):Int) - ((f:Nat):Int)=((p:Nat):Int):=by lia
     nofun;rw[ed];refine aL tb4 (by rw[aw];exact am ⋯) ?_;rw[bJ];nofun;refine⟨(s3.trans s4).own hbn,ss,qs,bs++[p],f+p,by rw[ai hsb];exact ts4,T4.own tb4,aa,?_,?_,_,_,_,rfl⟩
     ·rw[er',fg];exact e1
     ·rw[er',fg,Ic];exact e2
   ·rintro σ H3 ⟨s3,ss,qs,bs,f,ts3,T3,tb3,e1,e2,v4,v5,v6,rfl⟩
    have ed:ls.drop (2*((ls.length+1) / 2))=[]:=Mw ⋯;rw[ed,fg,Ic]at e1 e2;rw[<-e1]at T3;rw[<-e2]at tb3;nofun;refine⟨az (by simp),λt ht=>?_⟩;exact k t st bh qs _ hst hbn (s3.new ht) aa (by rw[ai (ae ts3 ht)];exact ts3) (T3.same ((PV H3).new ht)) (by rw[ai (ae tb3 ht)];exact tb3)
  ·exact ta.elim
noncomputable def yI(ss:List eS):Int:=(ss.map λs=>((s.2.2:Nat):Int) - ((s.1:Nat):Int)).sum
def xK:Sp:=λvs H Q _=>∃(a:Addr) (ls:List Nat),vs=[.ref a]/\(H a=some (.lst (NV ls))\/False)/\ls.length<=200/\
 ∀(t st:Addr) (qs:List Addr) H',H st=none->Same H H'->H' t=some (.tup [.ref st,.int (yI (fS ls))])->H' st=some (.lst (qs.map PY))->TrAt H' qs (fS ls)->Q (.ref t) H'
theorem eT (T:Tx K mg t):FnOk P t.wd K mg t.bs CX0 2 t.da t.cZ ["lengths"] xK:=by
 refine T.cX.okQ sc_ahead_of_runs (λvs H Q E h=>?_) (λcdv A outer s H vs Q E hr h=>?_)
 ·obtain⟨a,ls,rfl,_⟩:=h
  rfl
 ·obtain⟨a,ls,rfl,hta,hn,k⟩:=h
  refine⟨_,(ad (ar (i:=1) sc_ahead_of_runs.nd rfl (GI rfl) (ba ac))
   (ad (ar (i:=2) sc_ahead_of_runs.nd rfl (GI rfl) (qv 0))
   (ad (dX Ha (aD wa (ap (aW (K:=K)) (by rfl) T.bv aR (ag (qv 2) ac)) af (aK _)) (ad (dY (ak (i9 T) (hr.mono (by decide)) rfl T.kE T.fz.kp T.kh ay (ag (qv 2) ac)) (bp (K:=K) (n:=2) rfl (aq (ah (i:=3) sc_ahead_of_runs.nd rfl (GI rfl)) (aq (ah (i:=2) sc_ahead_of_runs.nd rfl (GI rfl)) aQ))))
   (aj (bx (ni (K:=K) (qv 1) (ag (qv 3) ac))))))
   (aj (au (aT (ag (qv 1) (ag (ap (jD (K:=K) rfl) (by rfl) T.kP j2 (ag (aN (N:=["first","middle","last"]) (tgs:=["first","middle","last"]) (frs:=[]) (ix:=[]) ⟨rfl,by decide +kernel,rfl,by decide +kernel,rfl,rfl,GL,GL,rfl⟩ rfl (aE (K:=K) (qv 1)) (λ_ _ _ _=>(bp (K:=K) (n:=3) rfl (aq (ah (i:=0) (by show G4 (["first","middle","last"]:List Str);decide +kernel) rfl (GI rfl)) (aq (ah (i:=1) (by show G4 (["first","middle","last"]:List Str);decide +kernel) rfl (GI rfl)) (aq (ah (i:=2) (by show G4 (["first","middle","last"]:List Str);decide +kernel) rfl (GI rfl)) aQ))))) (λ_ _ _ _=>(ax cK (qv 2) (qv 0)))) ac)) ac)))))))),?_⟩
  rw[show L2.start ["lengths","steps","stretches","done"] [PY a]=[some (PY a),none,none,none]from rfl];nofun;refine⟨az (by simp),λst hst=>?_⟩;have s1:=(PV H).new (o:=.lst []) hst;have ts1:(upd H st (.lst [])) st=some (.lst (([]:List Addr).map PY)):=aa;generalize upd H st (.lst [])=H1 at s1 ts1;nofun;refine⟨λm σ H'=>∃(xs:List Nat) (sp:Addr) (ss:List eS) (qs:List Addr),m=xs.length/\Same H H'/\(H' sp=some (.lst (NV xs))\/False)/\sp≠st/\H' st=some (.lst (qs.map PY))/\TrAt H' qs ss/\fS ls=ss++fS xs/\ss.length+xs.length<=200/\∃v3,σ=[some (PY a),some (PY st),some (PY sp),v3],⟨_,ls,a,[],[],rfl,s1,.inl (s1 _ _ (hta.elim id IG)),hta.elim (λh=>ae h hst) (λh=>h.elim),ts1,TrAt.nil,rfl,by simpa using hn,_,rfl⟩,?_⟩;rintro m σ H2 ⟨xs,sp,ss,qs,rfl,s2,hsp,hne,ts2,T2,eA,hl,v3,rfl⟩;nofun;refine u8 (hsp.imp id IG) ?_;rw[aw];nofun;refine aS (λg=>?_) (λg=>?_)
  ·refine⟨_,λ_ _ z=>z,?_⟩
   have hg:1<xs.length:=by lia
   obtain⟨r1,r2⟩:=jM 0 xs;nofun;refine⟨sp,xs,rfl,hsp,by lia,λt d bh us H3 hd hbh s3 tt td T3 tb=>?_⟩;refine aV tt ?_;dsimp only[HV];have ts3:=s3 _ _ ts2;have hul:us.length=(rnd 0 xs).1.length:=T3.1;have hql:qs.length=ss.length:=T2.1;nofun;refine⟨aX ts3,?_⟩;nofun;refine ny ts3 td (az (by rw[GA,GA];lia)) ?_;rw[<-GM];have hbs:bh≠st:=λe=>by rw[e,ts2]at hbh;cases hbh
   rw[jN hg]at eA;refine⟨(rnd 0 xs).2.length,by lia,(rnd 0 xs).2,bh,ss++(rnd 0 xs).1,qs++us,rfl,(s2.trans s3).own hst,.inl (by rw[ai hbs];exact tb),hbs,aa,((T2.same s3).app T3).own ts3,by rw[HY];exact eA,by rw[GZ];lia,_,rfl⟩
  ·have hg:¬ 1<xs.length:=by lia
   rw[gT hg,Ic]at eA;rw[<-eA]at T2;have hql:qs.length=(fS ls).length:=T2.1;have hal:(fS ls).length<=200:=by rw[eA];lia
   nofun;refine⟨st,rfl,⟨_,PP ts2⟩,aF (a:=st) (vs:=qs.map PY) (λi ys σ H'=>H'=H2/\i<=qs.length/\ys=(((fS ls).map λs=>((s.2.2:Nat):Int) - ((s.1:Nat):Int)).take i).map PR/\∃v w u,σ=[v,w,u]) (by rw[GA];exact am ⋯) (λi ys σ H' h=>by rw[h.2.2.1,GA,G5,GA];lia) (λi ys σ H' h=>by rw[h.1];exact PP ts2) ⟨rfl,GR _,rfl,none,none,none,rfl⟩ ?_ ?_⟩
   ·rintro i ys σ H' x hx ⟨rfl,_,rfl,v,w,u,rfl⟩
    have hil:=aI hx;obtain⟨q,rfl,hq,_,hi⟩:=aA hx;have hia:i<(fS ls).length:=by lia
    have tq:=T2.2 i q _ hq (Gz hia);refine gR tq ?_;dsimp only[HV];nofun;refine PX hil ⟨rfl,hi,?_,_,_,_,rfl⟩;rw[GS,GE,Gz hia,GM];rfl
   rintro ys σ H' ⟨e',_,rfl,v,w,u,rfl⟩ z hz;subst e';rw[GJ (by rw[GA,GA];lia)];have s3:=s2.new (o:=.lst (((fS ls).map λs=>((s.2.2:Nat):Int) - ((s.1:Nat):Int)).map PR)) hz;have s23:=(PV H').new (o:=.lst (((fS ls).map λs=>((s.2.2:Nat):Int) - ((s.1:Nat):Int)).map PR)) hz;have tz:(upd H' z (.lst (((fS ls).map λs=>((s.2.2:Nat):Int) - ((s.1:Nat):Int)).map PR))) z=some (.lst (((fS ls).map λs=>((s.2.2:Nat):Int) - ((s.1:Nat):Int)).map PR)):=aa;generalize upd H' z (.lst (((fS ls).map λs=>((s.2.2:Nat):Int) - ((s.1:Nat):Int)).map PR))=H3 at s3 s23 tz;nofun;refine iS (PP tz) ?_;nofun;refine⟨az (by simp),λt ht=>?_⟩;have ts3:=s23 _ _ ts2;exact k t st qs _ hst (s3.new ht) aa (by rw[ai (ae ts3 ht)];exact ts3) ((T2.same s23).same ((PV H3).new ht))
theorem vf{P:Addr}{te:TE}{t:TA}{σ:L2.St}{H:Hp}{Q:VK}(h:t σ H λvs H1=>∃n:Nat,vs=[.int n]/\n<64/\TabOk P lpos qual H1/\∀H2,SameX P H1 H2->TabOk P lpos qual H2->z6 te ix (cP 0 n) σ H2 Q):uB P lpos qual ix te t σ H Q:=h
def RowsU(H:Hp)(ps:List Addr)(rss:List (List Nat)):Prop:=ps.length=rss.length/\∀(i:Nat) p r,ps[i]? = some p->rss[i]? = some r->H p=some (.lst (NV r))\/H p=some (.tup (NV r))
theorem RowsU.same{H:Hp}(h:RowsU H ps rss)(e:Same H H1):RowsU H1 ps rss:=⟨h.1,λi p z a c=>(h.2 i p z a c).elim (λh=>.inl (e _ _ h)) (λh=>.inr (e _ _ h))⟩
theorem RowsT.toU{H:Hp}(h:RowsT H ps rss):RowsU H ps rss:=⟨h.1,λi p z a c=>.inr (h.2 i p z a c)⟩
abbrev pD (pt:Addr) (H:Hp):Prop:=TabOk pt ⟨93,40,93,72⟩ ((("told_order" : Str)++".<locals>.")++"<lambda>") H
theorem RowsU.sx{pt:Addr}{H:Hp}(h:RowsU H ps rss)(T:pD pt H)(e:SameX pt H H1):RowsU H1 ps rss:=⟨h.1,λi p z a c=>(h.2 i p z a c).elim (λh=>.inl (e _ _ (T.ne h) h)) (λh=>.inr (e _ _ (T.neT h) h))⟩
theorem RowsT.sx{pt:Addr}{H:Hp}(h:RowsT H ps rss)(T:pD pt H)(e:SameX pt H H1):RowsT H1 ps rss:=⟨h.1,λi p z a c=>e _ _ (T.neT (h.2 i p z a c)) (h.2 i p z a c)⟩
theorem ER{p:List Nat}(h:p.Pairwise (Ah λi j=>HT.aY ((rss.map bE).getD i []) ((rss.map bE).getD j []))):p.Pairwise (Rk rss 0):=by
 refine h.imp λ{i j} hij=>?_
 have e:∀i,(rss.map bE).getD i []=bE (rss.getD i []):=λi=>by
  rw[GB,GB,GE];cases rss[i]?<;>rfl
 obtain⟨h1,h2⟩:=hij;dsimp only at h1 h2;rw[e,e]at h1 h2;unfold Rk;rw[Ht,Ht];rcases o3 (rss.getD i []) (rss.getD j [])with q|q|q
 ·exact .inl q
 ·exact .inr ⟨q,h2 (by rw[q];exact k8 _)⟩
 ·have q':HT.aY (bE (rss.getD j [])) (bE (rss.getD i []))=true:=q
  rw[q']at h1;cases h1
theorem rS{p:List Nat}(h:p.Perm (GH n)):(p.map λi=>(cP 0 n).getD i .non)=NV p:=by
 unfold NV;apply HN;intro i hi;have:i<n:=Hj.mp (h.mem_iff.mp hi);unfold cP;rw[GB,GE,Hu this];simp
def CH(K:GC)(pt:Addr):Sp:=λvs H Q _=>∃(a:Addr) (ps:List Addr) (rss:List (List Nat)) (w:Nat),vs=[.ref a]/\(H a=some (.lst (ps.map PY))/\True)/\RowsU H ps rss/\(∀r∈rss,r.length=w)/\rss.length<64/\pD pt H/\
 ∀(l:Addr) (os:List Nat) H',H l=none->SameX pt H H'->pD pt H'->H' l=some (.lst (NV os))->os.Perm (GH rss.length)->os.Pairwise (Rk rss 0)->Q (.ref l) H'
theorem g8 (T:Tx K mg t):FnOk P t.wd K mg t.bs CX0 1 t.fL t.dk ["rows"] (CH K t.pt):=by
 refine T.fA.okC T.Gs mf (λvs H Q E h=>?_) (λA outer s H vs Q E hr h=>?_)
 ·obtain⟨a,ps,rss,w,rfl,_⟩:=h
  rfl
 ·obtain⟨a,ps,rss,w,rfl,hta,hR,hw,hn,hT,k⟩:=h
  have hpl:ps.length=rss.length:=hR.1;obtain⟨ta,_⟩:=hta
  ·refine⟨_,(aj (au (uD (N:=["place","rows"]) (x:="place") (frs:=["rows"]) (ix:=[0]) ⟨rfl,by decide +kernel,rfl,rfl,rfl,rfl,⟨⟨rfl,rfl,_,rfl,rfl⟩,GL⟩,⟨rfl,GL⟩,rfl,rfl,rfl⟩ rfl hr rfl T.ij rfl T.bn rfl T.Gu T.Gr (ag (ap (aW (K:=K)) (by rfl) T.bv aR (ag (qv 0) ac)) ac) (λ_ _ _ _ _ _=>(aP (bL (K:=K)) (by rfl) T.bA bu (ag (aJ (bg (K:=K)) (qv 1) (qv 0)) ac))) (λ_ _ _ _=>rfl)))),?_⟩
   rw[show L2.start ["rows"] [PY a]=[some (PY a)]from rfl];nofun;refine vf ?_;nofun;refine aH (PP ta) ?_;rw[GA,hpl];refine⟨rss.length,rfl,hn,hT,λH2 sx T2=>⟨by simp[cP];exact hn,λi ys H'=>Same H2 H'/\∃rs:List Addr,ys=rs.map PY/\rs.length=i/\i<=rss.length/\RowsT H' rs (rss.take i),⟨PV _,[],rfl,rfl,GR _,rfl,λi p r h=>by simp at h⟩,?_,?_⟩⟩
   ·rintro i ys H3 x hx ⟨s3,rs,rfl,hrl,_,hRs⟩
    have hi:i<rss.length:=by have:=aI hx;simpa [cP]using this
    have hx':x=PR (i:Nat):=by
     unfold cP at hx;rw[GE,Hu hi]at hx;have:=(G8 hx).symm;rw[this];simp
    subst hx';have hip:i<ps.length:=by lia
    have ta3:H3 a=some (.lst (ps.map PY)):=s3 _ _ (sx _ _ (hT.ne ta) ta);have er:=((hR.sx hT sx).same s3).2 i ps[i] rss[i] (by simp[hip]) (by simp[hi]);have et:rss.take (i+1)=rss.take i++[rss[i]]:=by rw[GS];simp[hi]
    show tCB _ _ [some (PR (i:Nat)),some (PY a)] H3 _
    nofun;refine bB (PP ta3) (v:=PY ps[i]) (aU (by rw[GE];simp[hip])) ?_;nofun;generalize ps[i]=q at er;generalize rss[i]=row at er et;rcases er with er|er
    ·refine gJ (PP er) λl2 hl2=>?_
     refine⟨(PV H3).new hl2,s3.new hl2,rs++[l2],by rw[GM];rfl,by simp[hrl],hi,?_⟩;rw[et];exact(hRs.same ((PV H3).new hl2)).snoc aa
    ·refine tI (PQ er) ?_
     refine⟨PV H3,s3,rs++[q],by rw[GM];rfl,by simp[hrl],hi,?_⟩;rw[et];exact hRs.snoc er
   ·rintro ys H3 hyl ⟨s3,rs,rfl,hrl,_,hRs⟩
    have hnl:(cP 0 rss.length).length=rss.length:=by simp[cP]
    rw[hnl]at hrl hRs;rw[GJ (GF _)]at hRs;refine⟨_,.inr ⟨rs,rss.map bE,rfl,by rw[GA];exact hrl,λi q r e1 e2=>?_,?_,rfl⟩,λd p hd hp hs=>?_⟩
    ·rw[GE]at e2
     obtain⟨r0,e3,rfl⟩:=HU.mp e2;have:=hRs.2 i q r0 e1 e3;rw[bM]at this;exact this
    ·rcases J8 w with h0|h0
     ·refine .inl λr hr=>?_
      obtain⟨r0,hr0,rfl⟩:=GX.mp hr;have:=hw r0 hr0;rw[h0]at this;rw[Ib.mp this];rfl
     ·refine .inr λr hr z=>?_
      obtain⟨r0,hr0,rfl⟩:=GX.mp hr;have:=hw r0 hr0;have h2:=congrArg Jz z;unfold bE at h2;rw[GA]at h2;simp at h2;rw[h2]at this;simp at this;lia
    ·rw[hnl]at hp
     rw[rS hp];have sx3:SameX t.pt H (upd H3 d (.lst (NV p))):=λb o hb e=>by
      have e3:=s3 _ _ (sx b o hb e);rw[ai (ae e3 hd)];exact e3
     refine k d p _ ?_ sx3 ((T2.same s3).same ((PV H3).new hd)) aa hp (ER hs);cases q:H d with
     | none=>rfl
     | some o=>
      by_cases hdp:d=t.pt
      ·rcases T2.same s3 with z|⟨c,z,_⟩<;>rw[<-hdp,hd]at z<;>cases z
      ·rw[s3 _ _ (sx d o hdp q)]at hd;cases hd
def vg:Sp:=λvs H Q _=>∃(n b m:Nat),vs=[.int n,.int b,.int m]/\2<=b/\b<=64/\m<=900/\n<b ^ m/\∀p H',H p=none->Same H H'->H' p=some (.tup ((dg n b m).map PR))->Q (.ref p) H'
theorem lj (T:Tx K mg t):FnOk P t.wd K mg t.bs CX0 1 t.ky t.ko ["n","base","many"] vg:=by
 refine T.j9.okQ sc_figures (λvs H Q E h=>?_) (λcdv A outer s H vs Q E hr h=>?_)
 ·obtain⟨n,b,m,rfl,_⟩:=h
  rfl
 ·obtain⟨n,b,m,rfl,hb,hb2,hm,hn,q⟩:=h
  refine⟨_,(ad (ar (i:=3) sc_figures.nd rfl (GI rfl) (ba ac))
   (ad (ar (i:=4) sc_figures.nd rfl (GI rfl) (qv 0))
   (ad (bC Ha rfl (bT rfl T.bn (ag (qv 2) ac)) (ah (i:=5) sc_figures.nd rfl (GI rfl)) (ad (bx (be (K:=K) (qv 3) (ag (ax jB (qv 4) (qv 1)) ac)))
   (aj (iU (i:=4) sc_figures.nd rfl (GI rfl) (qv 1) tK))))
   (ad (bR (aD wa (qv 4) af (aK _)) (aj pZ) bi)
   (aj (au (aP (bL (K:=K)) (by rfl) T.bA bu (ag (yu (K:=K) (qv 3)) ac)))))))),?_⟩
  rw[show L2.start ["n","base","many","lowest_first","rest","turn"] [PR n,PR b,PR m]=[some (PR n),some (PR b),some (PR m),none,none,none]from rfl];nofun;refine⟨az (by simp),λl hl=>?_⟩;nofun;refine⟨m,rfl,by lia,by lia,dG (λi σ H'=>Same H H'/\H' l=some (.lst ((GH i).map λj=>PR ((n / b ^ j % b:Nat):Int)))/\∃v,σ=[some (PR n),some (PR b),some (PR m),some (PY l),some (PR ((n / b ^ i:Nat):Int)),v]) ⟨(PV H).new hl,aa,none,by simp⟩ ?_ ?_⟩
  ·rintro i σ H' hi ⟨sm,hL,v,rfl⟩
   nofun;refine⟨aX hL,?_⟩;nofun;refine aL hL (by rw[GA,HH];exact am ⋯) ?_;nofun;have e1:((n / b ^ i:Nat):Int) / (b:Int)=((n / b ^ (i+1):Nat):Int):=by rw[<-dvp,IS (n / b ^ i)]
   rw[e1];refine⟨sm.own hl,?_,_,rfl⟩;rw[aa,List.range_succ,GM,Hg,KI,LZ (n / b ^ i)]
  ·rintro σ H' ⟨sm,hL,v,rfl⟩
   have hz:n / b ^ (m:Int).toNat=0:=Nat.div_eq_of_lt hn;nofun;refine gI (by rw[hz];decide) ?_;nofun;refine⟨l,_,rfl,PP hL,λr hr0=>?_⟩;nofun;refine gJ (PP aa) λp hp=>?_
   refine q p _ ((sm.new hr0).free hp) ((sm.new hr0).new hp) ?_;rw[aa];have:=BY n b m;rw[<-this];rfl
def ES:Sp:=λvs H Q _=>∃(m n:Nat),vs=[.int m,.int n]/\Q (.int ((Jg m n:Nat):Int)) H
theorem dO (T:Tx K mg t):FnOk P t.wd K mg t.bs CX0 1 t.cG t.cD ["one","other"] ES:=by
 refine T.cB.okQ sc_common_measure (λvs H Q E h=>?_) (λcdv A outer s H vs Q E hr h=>?_)
 ·obtain⟨m,n,rfl,_⟩:=h
  rfl
 ·obtain⟨m,n,rfl,q⟩:=h
  refine⟨_,(ad (p6 rfl sc_common_measure.nd (i:=2) (j:=3) rfl rfl (by decide) rfl rfl (ag (qv 0) (ag (qv 1) ac)))
   (ad (dX Ha (aD wa (qv 3) af (aK _)) (aj (p6 rfl sc_common_measure.nd (i:=2) (j:=3) rfl rfl (by decide) rfl rfl (ag (qv 3) (ag (ax jB (qv 2) (qv 3)) ac)))))
   (aj (au (qv 2))))),?_⟩
  rw[show L2.start ["one","other","greater","less"] [PR m,PR n]=[some (PR m),some (PR n),none,none]from rfl];nofun;refine⟨λc σ H'=>H'=H/\∃(g l:Nat),σ=[some (PR m),some (PR n),some (PR g),some (PR l)]/\Jg g l=Jg m n/\l=c,⟨n,rfl,m,n,rfl,rfl,rfl⟩,?_⟩;rintro c σ H' ⟨rfl,g,l,rfl,e,rfl⟩;nofun;refine aS (λh1=>?_) (λh1=>?_)
  ·refine⟨_,λ_ _ z=>z,?_⟩
   nofun;have hl:0<l:=by lia
   rw[<-LZ];exact⟨g % l,KS _ hl,rfl,l,g % l,rfl,by rw[qd hl,e],rfl⟩
  ·have hl:l=0:=by lia
   subst hl;rw[Nl]at e;nofun;rw[e];exact q
def At:Sp:=λvs H Q _=>∃(n b:Nat),vs=[.int n,.int b]/\2<=b/\b<=64/\n<2 ^ 199/\∀m:Nat,n<b ^ m->(0<m->b ^ (m - 1)<=n)->m<201->Q (.int m) H
theorem fu (T:Tx K mg t):FnOk P t.wd K mg t.bs CX0 1 t.dE t.dB ["n","base"] At:=by
 refine T.dw.okQ sc_many_figures (λvs H Q E h=>?_) (λcdv A outer s H vs Q E hr h=>?_)
 ·obtain⟨n,b,rfl,_⟩:=h
  rfl
 ·obtain⟨n,b,rfl,hb,hb2,hn,q⟩:=h
  refine⟨_,(ad (ar (i:=2) sc_many_figures.nd rfl (GI rfl) af)
   (ad (ar (i:=3) sc_many_figures.nd rfl (GI rfl) (qv 0))
   (ad (dX Ha (aD wa (qv 3) af (aK _)) (ad (iU (i:=3) sc_many_figures.nd rfl (GI rfl) (qv 1) tK)
   (aj (iU (i:=2) sc_many_figures.nd rfl (GI rfl) af kZ))))
   (aj (au (qv 2)))))),?_⟩
  rw[show L2.start ["n","base","many","rest"] [PR n,PR b]=[some (PR n),some (PR b),none,none]from rfl];nofun;refine⟨λm σ H'=>H'=H/\∃(pl:Nat),σ=[some (PR n),some (PR b),some (PR pl),some (PR ((n / b ^ pl:Nat):Int))]/\(0<pl->b ^ (pl - 1)<=n)/\2 ^ pl<=2*n+1/\n / b ^ pl=m,⟨n,rfl,0,by simp,by lia,by lia,by simp⟩,?_⟩;rintro m σ H' ⟨rfl,pl,rfl,h1,h2,rfl⟩;nofun;refine aS (λh3=>?_) (λh3=>?_)
  ·refine⟨_,λ_ _ z=>z,?_⟩
   nofun;have hpos:0<n / b ^ pl:=Ml.mp h3;have e1:((n / b ^ pl:Nat):Int) / (b:Int)=((n / b ^ (pl+1):Nat):Int):=by rw[<-dvp,IS (n / b ^ pl)]
   have e2:(pl:Int)+1=((pl+1:Nat):Int):=by lia
   rw[e1,e2];have hlt:n / b ^ (pl+1)<n / b ^ pl:=by
    rw[<-dvp];exact Nat.div_lt_self hpos ⋯
   exact⟨n / b ^ (pl+1),hlt,rfl,pl+1,rfl,λ_=>by rw[Ld];exact(NR.mp hpos).2,wI hb hpos,rfl⟩
  ·have hz:n / b ^ pl=0:=Nat.eq_zero_of_not_pos λh=>h3 (Ml.mpr h)
   nofun;refine q pl ?_ h1 ?_
   ·rcases Nat.div_eq_zero_iff.mp hz with h|h
    ·exact absurd h (Ho (Ko ⋯))
    ·exact h
   ·have h4:2 ^ pl<2 ^ 201:=HI h2 ⋯
    exact(Nat.pow_lt_pow_iff_right (by decide)).mp h4
def Few(ns:List Int):Prop:=ns.length<=200/\∀x∈ns,-(2 ^ 190)<x/\x<2 ^ 190
def CI(K:GC):Sp:=λvs H Q _=>∃(a:Addr) (ns:List Int) (b:Nat),vs=[.ref a,.int b]/\(SqL K H a (ns.map PR)\/SqT K H a (ns.map PR))/\2<=b/\b<=64/\Few ns/\
 ∀(l:Addr) (ps:List Addr) (zs:List Nat) (m:Nat) H',H l=none->Same H H'->H' l=some (.lst (ps.map PY))->RowsAt H' ps b m zs->Spelt ns b zs m->Q (.ref l) H'
theorem fT (T:Tx K mg t):FnOk P t.wd K mg t.bs CX0 2 t.eQ t.eL ["numbers","base"] (CI K):=by
 refine T.eF.okQ sc_number_rows (λvs H Q E h=>?_) (λcdv A outer s H vs Q E hr h=>?_)
 ·obtain⟨a,ns,b,rfl,_⟩:=h
  rfl
 ·obtain⟨a,ns,b,rfl,hs,hb,hb2,⟨hlen,hbd⟩,q⟩:=h
  rcases hs with hs|hs
  ·refine⟨_,(ad (bR (kX (ji (K:=K) (qv 0))) (aj (au (ba ac))) bi)
   (ad (ar (i:=2) sc_number_rows.nd rfl (Iu rfl) (ap (oT (K:=K) rfl) (by rfl) T.mS li (ag (qv 0) ac)))
   (ad (ar (i:=3) sc_number_rows.nd rfl (Iu rfl) (ak (fu T) (hr.mono (by decide)) rfl T.fX T.dw.kp T.fW ay (ag (ax cK (ap (tO (K:=K) rfl) (by rfl) T.ox u4 (ag (qv 0) ac)) (qv 2)) (ag (qv 1) ac))))
   (aj (au (aN (N:=["number","base","least","columns"]) (tgs:=["number"]) (frs:=["base","least","columns"]) (ix:=[1,2,3]) ⟨rfl,by decide +kernel,rfl,by decide +kernel,rfl,rfl,⟨⟨rfl,rfl,_,rfl,rfl⟩,⟨rfl,rfl,_,rfl,rfl⟩,⟨rfl,rfl,_,rfl,rfl⟩,GL⟩,⟨rfl,rfl,rfl,GL⟩,rfl⟩ rfl (aE (K:=K) (qv 0)) (λ_ _ _ _=>(ah (i:=0) (by show G4 (["number","base","least","columns"]:List Str);decide +kernel) rfl (GI rfl))) (λ_ _ _ _=>(ak (lj T) (hr.mono (by decide)) rfl T.ot T.j9.kp T.oi ay (ag (ax cK (qv 0) (qv 2)) (ag (qv 1) (ag (qv 3) ac))))))))))),?_⟩
   rw[show L2.start ["numbers","base","least","columns"] [PY a,PR b]=[some (PY a),some (PR b),none,none]from rfl];nofun;refine⟨_,Ey hs,?_⟩;by_cases h0:ns=[]
   ·subst h0
    nofun;exact⟨az (by simp),λl hl=>q l [] [] 0 _ hl ((PV H).new hl) (by rw[aa];rfl) ⟨rfl,λi p z e=>by simp at e⟩ (.inl ⟨rfl,rfl,rfl⟩)⟩
   ·have he:(ns.map PR).isEmpty=false:=by cases ns with|nil=>exact absurd rfl h0|cons x r=>rfl
    rw[he];refine cr ?_;nofun;refine oU (.inl hs) h0 λlo lo1 lo2=>?_
    nofun;refine tP (.inl hs) h0 λhi hi1 hi2=>?_
    nofun;have hd:hi - lo=(((hi - lo).toNat:Nat):Int):=by have:=lo2 hi hi1;lia
    rw[hd];refine⟨(hi - lo).toNat,b,rfl,hb,hb2,by have:=hbd hi hi1;have:=hbd lo lo1;lia,λm m1 m2 m3=>?_⟩;nofun;refine⟨a,rfl,⟨_,hs⟩,aF (a:=a) (vs:=ns.map PR) (λi ys σ H'=>Same H H'/\(∃ps:List Addr,ys=ps.map PY/\ps.length=i/\i<=ns.length/\RowsAt H' ps b m ((ns.map λx=>(x - lo).toNat).take i))/\∃v,σ=[v,some (PR b),some (PR lo),some (PR m)]) (by rw[GA];exact am ⋯) (λi ys σ H' h=>by obtain⟨_,⟨ps,rfl,e,_⟩,_⟩:=h;rw[GA,e]) (λi ys σ H' h=>h.1.seq hs) ⟨PV _,⟨[],rfl,rfl,GR _,rfl,λi p z h=>by simp at h⟩,none,rfl⟩ ?_ ?_⟩
    ·rintro i ys σ H' x hx ⟨sm,⟨ps,rfl,hpl,_,hR⟩,v,rfl⟩
     obtain⟨z,rfl,hz,hzm,hi'⟩:=aA hx;nofun;have h1:=lo2 z hzm;have h2:=hi2 z hzm;have ez:z - lo=(((z - lo).toNat:Nat):Int):=by lia
     rw[ez];refine⟨(z - lo).toNat,b,m,rfl,hb,hb2,by lia,by lia,λp H2 hp sm2 t2=>?_⟩;refine PX (by rw[GA];exact hi') ⟨sm.trans sm2,⟨ps++[p],by rw[GM];rfl,by simp[hpl],hi',?_⟩,_,rfl⟩;have et:(ns.map λx=>(x - lo).toNat).take (i+1)=(ns.map λx=>(x - lo).toNat).take i++[(z - lo).toNat]:=by rw[GS,GE,hz];rfl
     rw[et];exact(hR.same sm2).snoc t2
    ·rintro ys σ H' ⟨sm,⟨ps,rfl,hpl,_,hR⟩,v,rfl⟩ l hl
     rw[GJ (by simp)]at hR;exact q l ps _ m _ (sm.free hl) (sm.new hl) aa (hR.same ((PV _).new hl)) (.inr ⟨lo,hi,lo1,hi1,λx hx=>⟨lo2 x hx,hi2 x hx⟩,rfl,m1,m2,m3⟩)
  ·refine⟨_,(ad (bR (kX (ji (K:=K) (qv 0))) (aj (au (ba ac))) bi)
   (ad (ar (i:=2) sc_number_rows.nd rfl (Iu rfl) (ap (oT (K:=K) rfl) (by rfl) T.mS li (ag (qv 0) ac)))
   (ad (ar (i:=3) sc_number_rows.nd rfl (Iu rfl) (ak (fu T) (hr.mono (by decide)) rfl T.fX T.dw.kp T.fW ay (ag (ax cK (ap (tO (K:=K) rfl) (by rfl) T.ox u4 (ag (qv 0) ac)) (qv 2)) (ag (qv 1) ac))))
   (aj (au (aN (N:=["number","base","least","columns"]) (tgs:=["number"]) (frs:=["base","least","columns"]) (ix:=[1,2,3]) ⟨rfl,by decide +kernel,rfl,by decide +kernel,rfl,rfl,⟨⟨rfl,rfl,_,rfl,rfl⟩,⟨rfl,rfl,_,rfl,rfl⟩,⟨rfl,rfl,_,rfl,rfl⟩,GL⟩,⟨rfl,rfl,rfl,GL⟩,rfl⟩ rfl (jA (K:=K) (qv 0)) (λ_ _ _ _=>(ah (i:=0) (by show G4 (["number","base","least","columns"]:List Str);decide +kernel) rfl (GI rfl))) (λ_ _ _ _=>(ak (lj T) (hr.mono (by decide)) rfl T.ot T.j9.kp T.oi ay (ag (ax cK (qv 0) (qv 2)) (ag (qv 1) (ag (qv 3) ac))))))))))),?_⟩
   rw[show L2.start ["numbers","base","least","columns"] [PY a,PR b]=[some (PY a),some (PR b),none,none]from rfl];nofun;refine⟨_,Gb hs,?_⟩;by_cases h0:ns=[]
   ·subst h0
    nofun;exact⟨az (by simp),λl hl=>q l [] [] 0 _ hl ((PV H).new hl) (by rw[aa];rfl) ⟨rfl,λi p z e=>by simp at e⟩ (.inl ⟨rfl,rfl,rfl⟩)⟩
   ·have he:(ns.map PR).isEmpty=false:=by cases ns with|nil=>exact absurd rfl h0|cons x r=>rfl
    rw[he];refine cr ?_;nofun;refine oU (.inr hs) h0 λlo lo1 lo2=>?_
    nofun;refine tP (.inr hs) h0 λhi hi1 hi2=>?_
    nofun;have hd:hi - lo=(((hi - lo).toNat:Nat):Int):=by have:=lo2 hi hi1;lia
    rw[hd];refine⟨(hi - lo).toNat,b,rfl,hb,hb2,by have:=hbd hi hi1;have:=hbd lo lo1;lia,λm m1 m2 m3=>?_⟩;nofun;refine⟨a,rfl,⟨_,hs⟩,gL (a:=a) (vs:=ns.map PR) (λi ys σ H'=>Same H H'/\(∃ps:List Addr,ys=ps.map PY/\ps.length=i/\i<=ns.length/\RowsAt H' ps b m ((ns.map λx=>(x - lo).toNat).take i))/\∃v,σ=[v,some (PR b),some (PR lo),some (PR m)]) (by rw[GA];exact am ⋯) (λi ys σ H' h=>by obtain⟨_,⟨ps,rfl,e,_⟩,_⟩:=h;rw[GA,e]) (λi ys σ H' h=>h.1.tup hs) ⟨PV _,⟨[],rfl,rfl,GR _,rfl,λi p z h=>by simp at h⟩,none,rfl⟩ ?_ ?_⟩
    ·rintro i ys σ H' x hx ⟨sm,⟨ps,rfl,hpl,_,hR⟩,v,rfl⟩
     obtain⟨z,rfl,hz,hzm,hi'⟩:=aA hx;nofun;have h1:=lo2 z hzm;have h2:=hi2 z hzm;have ez:z - lo=(((z - lo).toNat:Nat):Int):=by lia
     rw[ez];refine⟨(z - lo).toNat,b,m,rfl,hb,hb2,by lia,by lia,λp H2 hp sm2 t2=>?_⟩;refine PX (by rw[GA];exact hi') ⟨sm.trans sm2,⟨ps++[p],by rw[GM];rfl,by simp[hpl],hi',?_⟩,_,rfl⟩;have et:(ns.map λx=>(x - lo).toNat).take (i+1)=(ns.map λx=>(x - lo).toNat).take i++[(z - lo).toNat]:=by rw[GS,GE,hz];rfl
     rw[et];exact(hR.same sm2).snoc t2
    ·rintro ys σ H' ⟨sm,⟨ps,rfl,hpl,_,hR⟩,v,rfl⟩ l hl
     rw[GJ (by simp)]at hR;exact q l ps _ m _ (sm.free hl) (sm.new hl) aa (hR.same ((PV _).new hl)) (.inr ⟨lo,hi,lo1,hi1,λx hx=>⟨lo2 x hx,hi2 x hx⟩,rfl,m1,m2,m3⟩)
def Au(K:GC):Sp:=λvs H Q _=>∃(a:Addr) (ps:List Addr) (tb:List (Int×Nat)),vs=[.ref a]/\(∀z∈tb,1<=z.2/\z.2<=60)/\
 ((SqL K H a (ps.map PY)/\PartsT H ps tb)\/(SqT K H a (ps.map PY)/\PartsT H ps tb))/\Q (.int ((fQ (tb.map (·.2)):Nat):Int)) H
theorem cW (T:Tx K mg t):FnOk P t.wd K mg t.bs CX0 2 t.dC t.dz ["parts"] (Au K):=by
 refine T.cm.okQ sc_least_bottom (λvs H Q E h=>?_) (λcdv A outer s H vs Q E hr h=>?_)
 ·obtain⟨a,ps,tb,rfl,_⟩:=h
  rfl
 ·obtain⟨a,ps,tb,rfl,hb,hs,q⟩:=h
  have hbs:∀b∈tb.map (·.2),1<=b/\b<=60:=λb h=>by
   obtain⟨z,hz,rfl⟩:=GX.mp h;exact hb z hz
  have hpos:∀i,0<fQ ((tb.map (·.2)).take i):=λi=>qc λb h=>hbs b (KO h)
  rcases hs with⟨hs,hP⟩|⟨hs,hP⟩
  ·refine⟨_,(ad (ar (i:=1) sc_least_bottom.nd rfl (GI rfl) af)
   (ad (bC Ha rfl (aE (K:=K) (qv 0)) (bp (K:=K) (n:=2) rfl (aq (ah (i:=2) sc_least_bottom.nd rfl (GI rfl)) (aq (ah (i:=3) sc_least_bottom.nd rfl (GI rfl)) aQ))) (aj (ar (i:=1) sc_least_bottom.nd rfl (GI rfl) (ax i7 (ax dl (qv 1) (ak (dO T) (hr.mono (by decide)) rfl T.eY T.cB.kp T.eX ay (ag (qv 1) (ag (qv 3) ac)))) (qv 3)))))
   (aj (au (qv 1))))),?_⟩
   rw[show L2.start ["parts","least","top","bottom"] [PY a]=[some (PY a),none,none,none]from rfl];nofun;refine⟨a,rfl,⟨_,hs⟩,cI (a:=a) (xs:=ps.map PY) (λi σ H'=>H'=H/\∃v w,σ=[some (PY a),some (PR ((fQ ((tb.map (·.2)).take i):Nat):Int)),v,w]) ⟨rfl,none,none,rfl⟩ (λi σ H' _ ⟨e,_⟩=>by rw[e];exact hs) ?_ ?_⟩
   ·rintro i x σ H' hx ⟨rfl,v,w,rfl⟩
    rw[GE]at hx;cases e:ps[i]? with
    | none=>rw[e]at hx;cases hx
    | some p=>
     rw[e]at hx;obtain rfl:PY p=x:=G8 hx;have hi:i<tb.length:=by rw[<-hP.1];exact(GQ.mp e).1
     have hz:=hP.2 i p tb[i] e (by simp[hi]);have hb2:=hb tb[i] (GU hi);have hget:(tb.map (·.2))[i]? = some tb[i].2:=by simp[hi]
     have hl:=m9 _ i _ hget;have hp0:=hpos i;generalize fQ ((tb.map (·.2)).take i)=L at hl hp0 ⊢;rw[hl];generalize tb[i].2=c at hb2 hz ⊢;refine⟨p,_,rfl,PQ hz,rfl,_,_,rfl,?_⟩;nofun;refine⟨_,_,rfl,?_⟩;nofun;refine⟨rfl,?_⟩;have hg1:0<Jg L c:=Mh _ hp0;have hg2:Jg L c<=c:=Lm ⋯ (Lw L c);have hst:=p8 L c;nofun;refine⟨L,c,rfl,?_⟩;generalize Jg L c=g at hg1 hg2 hst ⊢;have e:(L:Int) / (g:Int)*(c:Int)=((JG L c:Nat):Int):=by rw[<-hst,Ja,IS]
     nofun;rw[e];exact⟨rfl,_,_,rfl⟩
   ·rintro σ H' ⟨rfl,v,w,rfl⟩
    nofun;have el:(tb.map (·.2)).take (ps.map PY).length=tb.map (·.2):=GJ (by simp[hP.1]);rw[el];exact q
  ·refine⟨_,(ad (ar (i:=1) sc_least_bottom.nd rfl (GI rfl) af)
   (ad (bC Ha rfl (jA (K:=K) (qv 0)) (bp (K:=K) (n:=2) rfl (aq (ah (i:=2) sc_least_bottom.nd rfl (GI rfl)) (aq (ah (i:=3) sc_least_bottom.nd rfl (GI rfl)) aQ))) (aj (ar (i:=1) sc_least_bottom.nd rfl (GI rfl) (ax i7 (ax dl (qv 1) (ak (dO T) (hr.mono (by decide)) rfl T.eY T.cB.kp T.eX ay (ag (qv 1) (ag (qv 3) ac)))) (qv 3)))))
   (aj (au (qv 1))))),?_⟩
   rw[show L2.start ["parts","least","top","bottom"] [PY a]=[some (PY a),none,none,none]from rfl];nofun;refine⟨a,rfl,⟨_,hs⟩,oE (a:=a) (xs:=ps.map PY) (λi σ H'=>H'=H/\∃v w,σ=[some (PY a),some (PR ((fQ ((tb.map (·.2)).take i):Nat):Int)),v,w]) ⟨rfl,none,none,rfl⟩ (λi σ H' _ ⟨e,_⟩=>by rw[e];exact hs) ?_ ?_⟩
   ·rintro i x σ H' hx ⟨rfl,v,w,rfl⟩
    rw[GE]at hx;cases e:ps[i]? with
    | none=>rw[e]at hx;cases hx
    | some p=>
     rw[e]at hx;obtain rfl:PY p=x:=G8 hx;have hi:i<tb.length:=by rw[<-hP.1];exact(GQ.mp e).1
     have hz:=hP.2 i p tb[i] e (by simp[hi]);have hb2:=hb tb[i] (GU hi);have hget:(tb.map (·.2))[i]? = some tb[i].2:=by simp[hi]
     have hl:=m9 _ i _ hget;have hp0:=hpos i;generalize fQ ((tb.map (·.2)).take i)=L at hl hp0 ⊢;rw[hl];generalize tb[i].2=c at hb2 hz ⊢;refine⟨p,_,rfl,PQ hz,rfl,_,_,rfl,?_⟩;nofun;refine⟨_,_,rfl,?_⟩;nofun;refine⟨rfl,?_⟩;have hg1:0<Jg L c:=Mh _ hp0;have hg2:Jg L c<=c:=Lm ⋯ (Lw L c);have hst:=p8 L c;nofun;refine⟨L,c,rfl,?_⟩;generalize Jg L c=g at hg1 hg2 hst ⊢;have e:(L:Int) / (g:Int)*(c:Int)=((JG L c:Nat):Int):=by rw[<-hst,Ja,IS]
     nofun;rw[e];exact⟨rfl,_,_,rfl⟩
   ·rintro σ H' ⟨rfl,v,w,rfl⟩
    nofun;have el:(tb.map (·.2)).take (ps.map PY).length=tb.map (·.2):=GJ (by simp[hP.1]);rw[el];exact q
def xL(K:GC):Sp:=λvs H Q _=>∃(a:Addr) (ps:List Addr) (tb:List (Int×Nat)),vs=[.ref a]/\tb.length<=200/\(∀z∈tb,1<=z.2/\z.2<=60)/\(∀z∈tb,-(10 ^ 18)<z.1/\z.1<10 ^ 18)/\
 ((SqL K H a (ps.map PY)/\PartsT H ps tb)\/(SqT K H a (ps.map PY)/\PartsT H ps tb))/\∀l,H l=none->Q (.ref l) (upd H l (.lst ((bj tb).map PR)))
theorem ja (T:Tx K mg t):FnOk P t.wd K mg t.bs CX0 3 t.de t.c8 ["parts"] (xL K):=by
 refine T.fB.okQ sc_whole_numbers (λvs H Q E h=>?_) (λcdv A outer s H vs Q E hr h=>?_)
 ·obtain⟨a,ps,tb,rfl,_⟩:=h
  rfl
 ·obtain⟨a,ps,tb,rfl,hlen,hb,ht,hs,q⟩:=h
  rcases hs with⟨hs,hP⟩|⟨hs,hP⟩
  ·refine⟨_,(ad (ar (i:=1) sc_whole_numbers.nd rfl (Iu rfl) (ak (cW T) (hr.mono (by decide)) rfl T.dF T.cm.kp T.dy ay (ag (qv 0) ac)))
   (aj (au (aN (N:=["top","bottom","least"]) (tgs:=["top","bottom"]) (frs:=["least"]) (ix:=[1]) ⟨rfl,by decide +kernel,rfl,by decide +kernel,rfl,rfl,⟨⟨rfl,rfl,_,rfl,rfl⟩,GL⟩,⟨rfl,GL⟩,rfl⟩ rfl (aE (K:=K) (qv 0)) (λ_ _ _ _=>(bp (K:=K) (n:=2) rfl (aq (ah (i:=0) (by show G4 (["top","bottom","least"]:List Str);decide +kernel) rfl (GI rfl)) (aq (ah (i:=1) (by show G4 (["top","bottom","least"]:List Str);decide +kernel) rfl (GI rfl)) aQ)))) (λ_ _ _ _=>(ax i7 (qv 0) (ax dl (qv 2) (qv 1)))))))),?_⟩
   rw[show L2.start ["parts","least"] [PY a]=[some (PY a),none]from rfl];nofun;refine⟨a,ps,tb,rfl,hb,.inl ⟨hs,hP⟩,?_⟩;nofun;refine⟨a,rfl,⟨_,hs⟩,aF (a:=a) (vs:=ps.map PY) (λi ys σ H'=>H'=H/\i<=tb.length/\ys=((bj tb).take i).map PR/\∃v w,σ=[v,w,some (PR ((fQ (tb.map (·.2)):Nat):Int))]) (by rw[GA,hP.1];exact am ⋯) (λi ys σ H' h=>by rw[h.2.2.1,GA,G5,bw];lia) (λi ys σ H' h=>by rw[h.1];exact hs) ⟨rfl,GR _,rfl,none,none,rfl⟩ ?_ ?_⟩
   ·rintro i ys σ H' x hx ⟨rfl,_,rfl,v,w,rfl⟩
    have hil:=(GQ.mp hx).1;obtain⟨p,rfl,hp,_,hi⟩:=aA hx;have hit:i<tb.length:=by rw[<-hP.1];exact hi
    have hz:=hP.2 i p tb[i] hp (by simp[hit]);have hb1:=hb tb[i] (GU hit);have ht1:=ht tb[i] (GU hit);have et:(bj tb).take (i+1)=(bj tb).take i++[tb[i].1*((fQ (tb.map (·.2)) / tb[i].2:Nat):Int)]:=by
     rw[GS];unfold bj;rw[GE];simp[hit]
    rw[et];generalize fQ (tb.map (·.2))=L;generalize tb[i]=z at hz hb1 ht1;refine aV hz ?_;dsimp only[HV];nofun;refine PX hil ⟨rfl,hit,?_,_,_,rfl⟩;rw[GM,IS];rfl
   ·rintro ys σ H' ⟨rfl,_,rfl,v,w,rfl⟩ l hl
    rw[GJ (by rw[bw,GA,hP.1];exact GF _)];exact q l hl
  ·refine⟨_,(ad (ar (i:=1) sc_whole_numbers.nd rfl (Iu rfl) (ak (cW T) (hr.mono (by decide)) rfl T.dF T.cm.kp T.dy ay (ag (qv 0) ac)))
   (aj (au (aN (N:=["top","bottom","least"]) (tgs:=["top","bottom"]) (frs:=["least"]) (ix:=[1]) ⟨rfl,by decide +kernel,rfl,by decide +kernel,rfl,rfl,⟨⟨rfl,rfl,_,rfl,rfl⟩,GL⟩,⟨rfl,GL⟩,rfl⟩ rfl (jA (K:=K) (qv 0)) (λ_ _ _ _=>(bp (K:=K) (n:=2) rfl (aq (ah (i:=0) (by show G4 (["top","bottom","least"]:List Str);decide +kernel) rfl (GI rfl)) (aq (ah (i:=1) (by show G4 (["top","bottom","least"]:List Str);decide +kernel) rfl (GI rfl)) aQ)))) (λ_ _ _ _=>(ax i7 (qv 0) (ax dl (qv 2) (qv 1)))))))),?_⟩
   rw[show L2.start ["parts","least"] [PY a]=[some (PY a),none]from rfl];nofun;refine⟨a,ps,tb,rfl,hb,.inr ⟨hs,hP⟩,?_⟩;nofun;refine⟨a,rfl,⟨_,hs⟩,gL (a:=a) (vs:=ps.map PY) (λi ys σ H'=>H'=H/\i<=tb.length/\ys=((bj tb).take i).map PR/\∃v w,σ=[v,w,some (PR ((fQ (tb.map (·.2)):Nat):Int))]) (by rw[GA,hP.1];exact am ⋯) (λi ys σ H' h=>by rw[h.2.2.1,GA,G5,bw];lia) (λi ys σ H' h=>by rw[h.1];exact hs) ⟨rfl,GR _,rfl,none,none,rfl⟩ ?_ ?_⟩
   ·rintro i ys σ H' x hx ⟨rfl,_,rfl,v,w,rfl⟩
    have hil:=(GQ.mp hx).1;obtain⟨p,rfl,hp,_,hi⟩:=aA hx;have hit:i<tb.length:=by rw[<-hP.1];exact hi
    have hz:=hP.2 i p tb[i] hp (by simp[hit]);have hb1:=hb tb[i] (GU hit);have ht1:=ht tb[i] (GU hit);have et:(bj tb).take (i+1)=(bj tb).take i++[tb[i].1*((fQ (tb.map (·.2)) / tb[i].2:Nat):Int)]:=by
     rw[GS];unfold bj;rw[GE];simp[hit]
    rw[et];generalize fQ (tb.map (·.2))=L;generalize tb[i]=z at hz hb1 ht1;refine aV hz ?_;dsimp only[HV];nofun;refine PX hil ⟨rfl,hit,?_,_,_,rfl⟩;rw[GM,IS];rfl
   ·rintro ys σ H' ⟨rfl,_,rfl,v,w,rfl⟩ l hl
    rw[GJ (by rw[bw,GA,hP.1];exact GF _)];exact q l hl
def Ltr(n:Nat)(z:Str):Prop:=z.length<=n/\∀c∈z.cps.toList,97<=c/\c<=122
instance {n:Nat}{z:Str}:Decidable (Ltr n z):=by unfold Ltr;exact inferInstance
theorem Gg:(GY ((n:Nat):Int).toNat [PR 0]).flatten=(GY n (0:Int)).map PR:=by
 rw[HQ,Ka]
 induction n with
 | zero=>rfl
 | succ n ih=>rw[HM,JB,ih,HM];rfl
noncomputable def vh(m:Nat)(z:Str):List Int:=z.cps.toList.map (λc=>((c:Nat):Int) - 96)++GY (m - z.length) 0
def TRows(H:Hp)(ps:List Addr)(zs:List Str)(m:Nat):Prop:=ps.length=zs.length/\∀(i:Nat) (p:Addr) (z:Str),ps[i]? = some p->zs[i]? = some z->H p=some (.tup ((vh m z).map PR))
theorem TRows.same{H:Hp}{zs:List Str}(h:TRows H ps zs m)(s:Same H H'):TRows H' ps zs m:=⟨h.1,λi p z e1 e2=>s _ _ (h.2 i p z e1 e2)⟩
theorem TRows.snoc{H:Hp}{zs:List Str}(h:TRows H ps zs m)(hp:H p=some (.tup ((vh m z).map PR))):TRows H (ps++[p]) (zs++[z]) m:=by
 refine⟨by simp[h.1],λi p' z' e1 e2=>?_⟩;by_cases hi:i<ps.length
 ·rw[G6 hi]at e1
  rw[G6 (by rw[<-h.1];exact hi)]at e2;exact h.2 i p' z' e1 e2
 ·have hl:=(GQ.mp e1).1
  have e:i=ps.length:=by simp at hl;lia
  subst e;rw[He (GF _)]at e1;rw[h.1,He (GF _)]at e2;simp at e1 e2;rw[<-e1,<-e2];exact hp
def CJ:Sp:=λvs H Q _=>∃(z:Str) (m:Nat),vs=[.str z,.int m]/\Ltr 30 z/\z.length<=m/\m<=30/\∀p H',H p=none->Same H H'->H' p=some (.tup ((vh m z).map PR))->Q (.ref p) H'
theorem j6 (T:Tx K mg t):FnOk P t.wd K mg t.bs CX0 1 t.iR t.iN ["text","columns"] CJ:=by
 refine T.iI.okQ sc_text_row (λvs H Q E h=>?_) (λcdv A outer s H vs Q E hr h=>?_)
 ·obtain⟨z,m,rfl,_⟩:=h
  rfl
 ·obtain⟨z,m,rfl,hz,hzm,hm,k⟩:=h
  have hzs:z.cps.size=z.length:=rfl;refine⟨_,(ad (ar (i:=2) sc_text_row.nd rfl (Iu rfl) (ax cK (ap yD (by rfl) T.vY yG (ag bX ac)) af))
   (ad (io (i:=3) (N:=["letter","before_first"]) (tgs:=["letter"]) (frs:=["before_first"]) (ix:=[2])  sc_text_row.nd rfl (GI rfl) ⟨rfl,by decide +kernel,rfl,by decide +kernel,rfl,rfl,⟨⟨rfl,rfl,_,rfl,rfl⟩,GL⟩,⟨rfl,GL⟩,rfl⟩ rfl (Ct (qv 0)) (λ_ _ _ _=>(ah (i:=0) (by show G4 (["letter","before_first"]:List Str);decide +kernel) rfl (GI rfl))) (λ_ _ _ _=>(ax cK (ap yD (by rfl) T.vY yG (ag (qv 0) ac)) (qv 1))))
   (aj (au (aP (bL (K:=K)) (by rfl) T.bA bu (ag (ax zF (qv 3) (ax wM (ba (ag af ac)) (ax cK (qv 1) (ap iB (by rfl) T.bv aR (ag (qv 0) ac))))) ac)))))),?_⟩
  rw[show L2.start ["text","columns","before_first","letters"] [PU z,PR m]=[some (PU z),some (PR m),none,none]from rfl];nofun;refine⟨_,rfl,by decide +kernel,?_⟩;nofun;have e97:(((Hi "a").cps.getD 0 0:Nat):Int) - 1=96:=by decide +kernel
  rw[e97];refine⟨z,rfl,qh (n:=z.cps.size) (λi ys σ H'=>H'=H/\ys=((z.cps.toList.take i).map (λc=>((c:Nat):Int) - 96)).map PR/\i<=z.cps.size/\∃v,σ=[v,some (PR 96)]) (am (by have:=hz.1;lia)) (λi ys σ H' h=>by obtain⟨_,rfl,hi,_⟩:=h;simp;lia) ⟨rfl,rfl,GR _,none,rfl⟩ (λi ys σ H' hi h=>hi) (λys σ H' h=>rfl) ?_ ?_⟩
  ·rintro i x ys σ H1 H2 hi ⟨rfl,rfl,_,v,rfl⟩ ⟨rfl,c,hc,rfl⟩
   nofun;refine⟨_,rfl,rfl,?_⟩;nofun;refine PX hi ⟨rfl,?_,hi,_,rfl⟩;have ec:z.cps.toList[i]? = some c:=by rw[JE];exact hc
   rw[GS,ec,GM,GM];rfl
  ·rintro ys σ H1 ⟨rfl,rfl,_,v,rfl⟩ a ha
   rw[GJ (by simp)];have t1:(upd H1 a (.lst ((z.cps.toList.map (λc=>((c:Nat):Int) - 96)).map PR))) a=some (.lst ((z.cps.toList.map (λc=>((c:Nat):Int) - 96)).map PR)):=aa;have s1:=(PV H1).new (o:=.lst ((z.cps.toList.map (λc=>((c:Nat):Int) - 96)).map PR)) ha;generalize upd H1 a (.lst ((z.cps.toList.map (λc=>((c:Nat):Int) - 96)).map PR))=H2 at t1 s1;nofun;refine⟨az (by simp),λb hb=>?_⟩;have t2:(upd H2 b (.lst [PR 0])) a=some (.lst ((z.cps.toList.map (λc=>((c:Nat):Int) - 96)).map PR)):=by rw[ai (ae t1 hb)];exact t1
   have s2:=s1.new (o:=.lst [PR 0]) hb;have tb:(upd H2 b (.lst [PR 0])) b=some (.lst [PR 0]):=aa;generalize upd H2 b (.lst [PR 0])=H3 at t2 s2 tb;nofun;refine⟨z,rfl,az ⋯,?_⟩;nofun;have em:(m:Int) - (z.length:Int)=((m - z.length:Nat):Int):=by lia
   rw[em];refine⟨b,_,_,rfl,rfl,tb,by lia,by lia,az (by simp only[Hh,Ie,HQ];lia),λd hd=>?_⟩;rw[Gg];have t3:(upd H3 d (.lst ((GY (m - z.length) (0:Int)).map PR))) a=some (.lst ((z.cps.toList.map (λc=>((c:Nat):Int) - 96)).map PR)):=by rw[ai (ae t2 hd)];exact t2
   have s3:=s2.new (o:=.lst ((GY (m - z.length) (0:Int)).map PR)) hd;have td:(upd H3 d (.lst ((GY (m - z.length) (0:Int)).map PR))) d=some (.lst ((GY (m - z.length) (0:Int)).map PR)):=aa;generalize upd H3 d (.lst ((GY (m - z.length) (0:Int)).map PR))=H4 at t3 s3 td;refine⟨a,d,_,_,rfl,rfl,t3,td,az (by rw[GA,GA,GA,IY,Ii];lia),λe he=>?_⟩;have eq1:(z.cps.toList.map (λc=>((c:Nat):Int) - 96)).map PR++(GY (m - z.length) (0:Int)).map PR=(vh m z).map PR:=by unfold vh;rw[<-GM]
   rw[eq1];have s4:=s3.new (o:=.lst ((vh m z).map PR)) he;have te:(upd H4 e (.lst ((vh m z).map PR))) e=some (.lst ((vh m z).map PR)):=aa;generalize upd H4 e (.lst ((vh m z).map PR))=H5 at s4 te;refine gJ (PP te) λf hf=>?_
   nofun;exact k f _ (s4.free hf) (s4.new hf) aa
def CK(zs:List Str)(m:Nat):Prop:=(∀z∈zs,z.length<=m)/\(zs=[]/\m=0\/∃z∈zs,z.length=m)
def Av(K:GC):Sp:=λvs H Q _=>∃(a:Addr) (zs:List Str),vs=[.ref a]/\(SqL K H a (zs.map PU)\/SqT K H a (zs.map PU))/\zs.length<=200/\(∀z∈zs,Ltr 30 z)/\∀(l:Addr) (ps:List Addr) (m:Nat) H',H l=none->Same H H'->H' l=some (.lst (ps.map PY))->TRows H' ps zs m->CK zs m->m<=30->Q (.ref l) H'
theorem nO (T:Tx K mg t):FnOk P t.wd K mg t.bs CX0 2 t.gy t.gv ["texts"] (Av K):=by
 refine T.ke.okQ sc_text_rows (λvs H Q E h=>?_) (λcdv A outer s H vs Q E hr h=>?_)
 ·obtain⟨a,zs,rfl,_⟩:=h
  rfl
 ·obtain⟨a,zs,rfl,hs,hlen,hL,q⟩:=h
  rcases hs with hs|hs
  ·refine⟨_,(ad (ar (i:=1) sc_text_rows.nd rfl (Iu rfl) (uI (K:=K) rfl rfl T.ox (ag (aN (N:=["text"]) (tgs:=["text"]) (frs:=[]) (ix:=[]) ⟨rfl,by decide +kernel,rfl,by decide +kernel,rfl,rfl,GL,GL,rfl⟩ rfl (aE (K:=K) (qv 0)) (λ_ _ _ _=>(ah (i:=0) (by show G4 (["text"]:List Str);decide +kernel) rfl (GI rfl))) (λ_ _ _ _=>(ap iB (by rfl) T.bv aR (ag (qv 0) ac)))) ac)))
   (aj (au (aN (N:=["text","columns"]) (tgs:=["text"]) (frs:=["columns"]) (ix:=[1]) ⟨rfl,by decide +kernel,rfl,by decide +kernel,rfl,rfl,⟨⟨rfl,rfl,_,rfl,rfl⟩,GL⟩,⟨rfl,GL⟩,rfl⟩ rfl (aE (K:=K) (qv 0)) (λ_ _ _ _=>(ah (i:=0) (by show G4 (["text","columns"]:List Str);decide +kernel) rfl (GI rfl))) (λ_ _ _ _=>(ak (j6 T) (hr.mono (by decide)) rfl T.lv T.iI.kp T.lu ay (ag (qv 0) (ag (qv 1) ac)))))))),?_⟩
   rw[show L2.start ["texts","columns"] [PY a]=[some (PY a),none]from rfl];nofun;refine⟨a,rfl,⟨_,hs⟩,aF (a:=a) (vs:=zs.map PU) (λi ys σ H'=>H'=H/\ys=((zs.take i).map λz=>((z.length:Nat):Int)).map PR/\i<=zs.length/\∃v,σ=[v]) (by rw[GA];exact am ⋯) (λi ys σ H' h=>by obtain⟨_,rfl,hi,_⟩:=h;simp;lia) (λi ys σ H' h=>by rw[h.1];exact hs) ⟨rfl,rfl,GR _,none,rfl⟩ ?_ ?_⟩
   ·rintro i ys σ H' x hx ⟨rfl,rfl,_,v,rfl⟩
    obtain⟨z,rfl,hz,hzm,hi'⟩:=aA hx;nofun;refine⟨z,rfl,az (by have:=(hL z hzm).1;lia),?_⟩;refine PX (by rw[GA];exact hi') ⟨rfl,?_,hi',_,rfl⟩;rw[GS,hz,GM,GM];rfl
   ·rintro ys σ H' ⟨rfl,rfl,_,v,rfl⟩ l0 hl0
    rw[GJ (by simp)];have t0:(upd H' l0 (.lst ((zs.map λz=>((z.length:Nat):Int)).map PR))) l0=some (.lst ((zs.map λz=>((z.length:Nat):Int)).map PR)):=aa;have s0:=(PV H').new (o:=.lst ((zs.map λz=>((z.length:Nat):Int)).map PR)) hl0;generalize upd H' l0 (.lst ((zs.map λz=>((z.length:Nat):Int)).map PR))=H1 at t0 s0;nofun;refine⟨l0,_,rfl,PP t0,λmm hmm=>?_⟩;obtain⟨m,rfl,hM⟩:∃m:Nat,mm=m/\CK zs m:=by
     rcases hmm with⟨h0,rfl⟩|⟨h1,h2⟩
     ·have e0:zs=[]:=JS.mp h0
      exact⟨0,rfl,by rw[e0];exact λz h=>(nomatch h),.inl ⟨e0,rfl⟩⟩
     ·obtain⟨z,hz,rfl⟩:=GX.mp h1
      refine⟨z.length,rfl,λy hy=>?_,.inr ⟨z,hz,rfl⟩⟩;have:=h2 _ (GX.mpr ⟨y,hy,rfl⟩);lia
    have hm:m<=30:=by
     rcases hM.2 with⟨_,rfl⟩|⟨z,hz,rfl⟩
     ·lia
     ·exact(hL z hz).1
    nofun;refine⟨a,rfl,⟨_,s0.seq hs⟩,aF (a:=a) (vs:=zs.map PU) (λi ys σ H2=>Same H' H2/\(∃ps:List Addr,ys=ps.map PY/\ps.length=i/\i<=zs.length/\TRows H2 ps (zs.take i) m)/\∃v,σ=[v,some (PR m)]) (by rw[GA];exact am ⋯) (λi ys σ H2 h=>by obtain⟨_,⟨ps,rfl,e,_⟩,_⟩:=h;rw[GA,e]) (λi ys σ H2 h=>h.1.seq hs) ⟨s0,⟨[],rfl,rfl,GR _,rfl,λi p z h=>by simp at h⟩,none,rfl⟩ ?_ ?_⟩
    ·rintro i ys σ H2 x hx ⟨sm,⟨ps,rfl,hpl,_,hR⟩,v,rfl⟩
     obtain⟨z,rfl,hz,hzm,hi'⟩:=aA hx;nofun;refine⟨z,m,rfl,hL z hzm,hM.1 z hzm,hm,λp H3 hp sm2 t2=>?_⟩;refine PX (by rw[GA];exact hi') ⟨sm.trans sm2,⟨ps++[p],by rw[GM];rfl,by simp[hpl],hi',?_⟩,_,rfl⟩;have et:zs.take (i+1)=zs.take i++[z]:=by rw[GS,hz];rfl
     rw[et];exact(hR.same sm2).snoc t2
    ·rintro ys σ H2 ⟨sm,⟨ps,rfl,hpl,_,hR⟩,v,rfl⟩ l hl
     rw[GJ (by simp)]at hR;exact q l ps m _ (sm.free hl) (sm.new hl) aa (hR.same ((PV _).new hl)) hM hm
  ·refine⟨_,(ad (ar (i:=1) sc_text_rows.nd rfl (Iu rfl) (uI (K:=K) rfl rfl T.ox (ag (aN (N:=["text"]) (tgs:=["text"]) (frs:=[]) (ix:=[]) ⟨rfl,by decide +kernel,rfl,by decide +kernel,rfl,rfl,GL,GL,rfl⟩ rfl (jA (K:=K) (qv 0)) (λ_ _ _ _=>(ah (i:=0) (by show G4 (["text"]:List Str);decide +kernel) rfl (GI rfl))) (λ_ _ _ _=>(ap iB (by rfl) T.bv aR (ag (qv 0) ac)))) ac)))
   (aj (au (aN (N:=["text","columns"]) (tgs:=["text"]) (frs:=["columns"]) (ix:=[1]) ⟨rfl,by decide +kernel,rfl,by decide +kernel,rfl,rfl,⟨⟨rfl,rfl,_,rfl,rfl⟩,GL⟩,⟨rfl,GL⟩,rfl⟩ rfl (jA (K:=K) (qv 0)) (λ_ _ _ _=>(ah (i:=0) (by show G4 (["text","columns"]:List Str);decide +kernel) rfl (GI rfl))) (λ_ _ _ _=>(ak (j6 T) (hr.mono (by decide)) rfl T.lv T.iI.kp T.lu ay (ag (qv 0) (ag (qv 1) ac)))))))),?_⟩
   rw[show L2.start ["texts","columns"] [PY a]=[some (PY a),none]from rfl];nofun;refine⟨a,rfl,⟨_,hs⟩,gL (a:=a) (vs:=zs.map PU) (λi ys σ H'=>H'=H/\ys=((zs.take i).map λz=>((z.length:Nat):Int)).map PR/\i<=zs.length/\∃v,σ=[v]) (by rw[GA];exact am ⋯) (λi ys σ H' h=>by obtain⟨_,rfl,hi,_⟩:=h;simp;lia) (λi ys σ H' h=>by rw[h.1];exact hs) ⟨rfl,rfl,GR _,none,rfl⟩ ?_ ?_⟩
   ·rintro i ys σ H' x hx ⟨rfl,rfl,_,v,rfl⟩
    obtain⟨z,rfl,hz,hzm,hi'⟩:=aA hx;nofun;refine⟨z,rfl,az (by have:=(hL z hzm).1;lia),?_⟩;refine PX (by rw[GA];exact hi') ⟨rfl,?_,hi',_,rfl⟩;rw[GS,hz,GM,GM];rfl
   ·rintro ys σ H' ⟨rfl,rfl,_,v,rfl⟩ l0 hl0
    rw[GJ (by simp)];have t0:(upd H' l0 (.lst ((zs.map λz=>((z.length:Nat):Int)).map PR))) l0=some (.lst ((zs.map λz=>((z.length:Nat):Int)).map PR)):=aa;have s0:=(PV H').new (o:=.lst ((zs.map λz=>((z.length:Nat):Int)).map PR)) hl0;generalize upd H' l0 (.lst ((zs.map λz=>((z.length:Nat):Int)).map PR))=H1 at t0 s0;nofun;refine⟨l0,_,rfl,PP t0,λmm hmm=>?_⟩;obtain⟨m,rfl,hM⟩:∃m:Nat,mm=m/\CK zs m:=by
     rcases hmm with⟨h0,rfl⟩|⟨h1,h2⟩
     ·have e0:zs=[]:=JS.mp h0
      exact⟨0,rfl,by rw[e0];exact λz h=>(nomatch h),.inl ⟨e0,rfl⟩⟩
     ·obtain⟨z,hz,rfl⟩:=GX.mp h1
      refine⟨z.length,rfl,λy hy=>?_,.inr ⟨z,hz,rfl⟩⟩;have:=h2 _ (GX.mpr ⟨y,hy,rfl⟩);lia
    have hm:m<=30:=by
     rcases hM.2 with⟨_,rfl⟩|⟨z,hz,rfl⟩
     ·lia
     ·exact(hL z hz).1
    nofun;refine⟨a,rfl,⟨_,s0.tup hs⟩,gL (a:=a) (vs:=zs.map PU) (λi ys σ H2=>Same H' H2/\(∃ps:List Addr,ys=ps.map PY/\ps.length=i/\i<=zs.length/\TRows H2 ps (zs.take i) m)/\∃v,σ=[v,some (PR m)]) (by rw[GA];exact am ⋯) (λi ys σ H2 h=>by obtain⟨_,⟨ps,rfl,e,_⟩,_⟩:=h;rw[GA,e]) (λi ys σ H2 h=>h.1.tup hs) ⟨s0,⟨[],rfl,rfl,GR _,rfl,λi p z h=>by simp at h⟩,none,rfl⟩ ?_ ?_⟩
    ·rintro i ys σ H2 x hx ⟨sm,⟨ps,rfl,hpl,_,hR⟩,v,rfl⟩
     obtain⟨z,rfl,hz,hzm,hi'⟩:=aA hx;nofun;refine⟨z,m,rfl,hL z hzm,hM.1 z hzm,hm,λp H3 hp sm2 t2=>?_⟩;refine PX (by rw[GA];exact hi') ⟨sm.trans sm2,⟨ps++[p],by rw[GM];rfl,by simp[hpl],hi',?_⟩,_,rfl⟩;have et:zs.take (i+1)=zs.take i++[z]:=by rw[GS,hz];rfl
     rw[et];exact(hR.same sm2).snoc t2
    ·rintro ys σ H2 ⟨sm,⟨ps,rfl,hpl,_,hR⟩,v,rfl⟩ l hl
     rw[GJ (by simp)]at hR;exact q l ps m _ (sm.free hl) (sm.new hl) aa (hR.same ((PV _).new hl)) hM hm
def Rises(rss:List (List Int))(lt:Nat->Nat->Bool):Prop:=∀(i j:Nat) (r r':List Int),rss[i]? = some r->rss[j]? = some r'->HT.aY r r'=lt i j
noncomputable def ltN(ns:List Int)(i j:Nat):Bool:=decide (ns.getD i 0<ns.getD j 0)
theorem vi{α:Type}{xs:List α}{x d:α}(h:xs[i]? = some x):xs.getD i d=x:=by rw[GB,h];rfl
theorem map_some{α β:Type}{f:α->β}{xs:List α}{y:β}(h:(xs.map f)[i]? = some y):∃x,xs[i]? = some x/\y=f x:=by
 rw[GE]at h;cases e:xs[i]? with
 | none=>rw[e]at h;cases h
 | some x=>rw[e]at h;exact⟨x,rfl,(G8 h).symm⟩
theorem vj{α:Type}{xs:List α}(h:i<xs.length):∃x,xs[i]? = some x:=⟨xs[i],by simp[h]⟩
theorem Aw{ns:List Int}(h:Spelt ns b zs m)(hb:2<=b):Rises (zs.map λz=>dg z b m) (ltN ns):=by
 intro i j r r' e1 e2;obtain⟨z,hz,rfl⟩:=map_some e1;obtain⟨w,hw,rfl⟩:=map_some e2;obtain⟨x,hx⟩:=vj (xs:=ns) (i:=i) (by rw[<-h.len];exact(GQ.mp hz).1);obtain⟨y,hy⟩:=vj (xs:=ns) (i:=j) (by rw[<-h.len];exact(GQ.mp hw).1);unfold ltN;rw[vi hx,vi hy];exact h.lex hb hx hy hz hw
theorem CL{bs:List (List Int)}{ps:List (List Int×Int)}(h:Cn bs ps)(r:List Int):(nC (ps.map dTf) (iW r)).getD (.int 0)=.int (bs.count r:Nat):=by
 obtain⟨h1,h2,h3⟩:=h;by_cases hr:r∈ps.map (·.1)
 ·obtain⟨⟨r',n⟩,hm,rfl⟩:=GX.mp hr
  rw[(jV (r:=r') (ps:=ps)).2 n h1 hm];have e:=h3 _ hm;have e2:n=(bs.count r':Int):=e;rw[e2];rfl
 ·rw[(jV (r:=r) (ps:=ps)).1 hr,ID.mpr λz=>hr ((h2 r).mpr z)]
  rfl
theorem CM(xs:List V):kU xs none (some (-1))=xs.dropLast:=by
 unfold kU;rw[HT.pX,Ht,LP,List.dropLast_eq_take];congr 1
 first
  | rfl
  | (unfold HT.sIx;simp;lia)
  | (unfold HT.sIx;split<;>lia)
theorem pE(r:List Int):(iW r).map kV=r.map PR:=by rw[pk]
noncomputable def fw(zs:List (List Int×Int)):List (List Int):=zs.map λz=>z.1.dropLast
def Gh:Sp:=λvs H Q _=>∃(a:Addr) (as qs:List Addr) (zs:List (List Int×Int)),vs=[.ref a]/\H a=some (.lst (as.map PY))/\PairsAt H as qs zs/\zs.length<=60/\(∀z∈zs,z.1.length<=201)/\
 ∀(o:Addr) (cs:List (List Int×Int)) H',H o=none->Same H H'->H' o=some (.dT (cs.map dTf))->Cn (fw zs) cs->Q (.ref o) H'
theorem iG (T:Tx K mg t):FnOk P t.wd K mg t.bs CX0 1 t.cH t.cE ["longer"] Gh:=by
 refine T.eV.okQ sc_many_goings_on (λvs H Q E h=>?_) (λcdv A outer s H vs Q E hr h=>?_)
 ·obtain⟨a,as,qs,zs,rfl,_⟩:=h
  rfl
 ·obtain⟨a,as,qs,zs,rfl,ta,hP,hn,hw,k⟩:=h
  refine⟨_,(ad (ar (i:=1) sc_many_goings_on.nd rfl (GI rfl) qC)
   (ad (bC Ha rfl (aE (K:=K) (qv 0)) (bp (K:=K) (n:=2) rfl (aq (ah (i:=2) sc_many_goings_on.nd rfl (GI rfl)) (aq (ah (i:=3) sc_many_goings_on.nd rfl (GI rfl)) aQ))) (ad (ar (i:=4) sc_many_goings_on.nd rfl (GI rfl) (aP (bL (K:=K)) (by rfl) T.bA bu (ag (cJ yB (qv 2) oQ (bN (jz jC af))) ac)))
   (aj (uw (oK hr) (qv 1) (qv 4) (ax ca (lY (oK hr) (qv 1) (qv 4) af) af)))))
   (aj (au (qv 1))))),?_⟩
  rw[show L2.start ["longer","many","beginning","rows_with_it","shorter"] [PY a]=[some (PY a),none,none,none,none]from rfl];nofun;intro o ho;have s1:=(PV H).new (o:=.dT []) ho;have to:(upd H o (.dT [])) o=some (.dT (([]:List (List Int×Int)).map dTf)):=aa;generalize upd H o (.dT [])=H1 at s1 to;nofun;refine⟨a,rfl,⟨_,PP (s1 _ _ ta)⟩,cI (a:=a) (xs:=as.map PY) (λi σ H2=>Same H H2/\(∃cs:List (List Int×Int),H2 o=some (.dT (cs.map dTf))/\Cn (fw (zs.take i)) cs/\cs.length<=i)/\∃u v x,σ=[some (PY a),some (PY o),u,v,x]) ⟨s1,⟨[],to,by rw[MN];exact Cn.nil,GF _⟩,_,_,_,rfl⟩ (λi σ H2 _ h=>PP (h.1 _ _ ta)) ?_ ?_⟩
  ·rintro i x σ H2 hx ⟨s2,⟨cs,to2,hC,hcl⟩,u,v,x',rfl⟩
   obtain⟨p,rfl,hp,_,hi⟩:=aA hx;have hiz:i<zs.length:=by rw[<-hP.1];exact hi
   have hiq:i<qs.length:=by rw[hP.2.1];exact hiz
   have ez:zs[i]? = some zs[i]:=by simp[hiz]
   obtain⟨tp,tq⟩:=hP.2.2 i p _ _ hp (Gz hiq) ez;have tp:=s2 _ _ tp;have tq:=s2 _ _ tq;have es:fw (zs.take (i+1))=fw (zs.take i)++[zs[i].1.dropLast]:=by
    unfold fw;rw[GS,ez,GM];rfl
   rw[es];generalize qs[i]=q at tp tq;generalize zs[i]=z at tp tq;nofun;refine aV tp ?_;nofun;refine⟨_,rfl,q,_,rfl,tq,λb H3 s3 tb=>?_⟩;rw[CM,<-List.map_dropLast]at tb;have to3:=s3 _ _ to2;nofun;refine⟨b,_,rfl,.inr ⟨PQ tb,?_⟩⟩;nofun;refine⟨o,rfl,.inr ⟨_,.inl to3⟩,?_⟩;nofun;obtain⟨m,cs',e1,e2,hC',hl'⟩:=hC.step z.1.dropLast;refine⟨_,DGet.t to3 (k:=iW z.1.dropLast) (by rw[pE];exact tb),?_⟩;rw[e1];nofun;refine⟨o,_,rfl,DPut.t to3 (k:=iW z.1.dropLast) (by rw[pE];exact tb) (by rw[GA];exact am ⋯),?_⟩;rw[e2];exact⟨(s2.trans s3).own ho,⟨cs',aa,hC',by lia⟩,_,_,_,rfl⟩
  ·rintro σ H2 ⟨s2,⟨cs,to2,hC,hcl⟩,u,v,x',rfl⟩
   rw[GA]at hC hcl;rw[GJ (by rw[hP.1];exact GF _)]at hC;nofun;exact k o cs H2 ho s2 to2 hC
noncomputable def Ax(zs zs':List (List Int×Int)):Int:=(zs.map λz=>if 1<(fw zs').count z.1 then z.2 else 0).sum
noncomputable def fU(zss:List (List (List Int×Int))):Int:=((GH (zss.length - 1)).map λc=>Ax (zss.getD c []) (zss.getD (c+1) [])).sum
def BegsAt(H:Hp)(ds:List Addr)(zss:List (List (List Int×Int))):Prop:=ds.length=zss.length/\∀(i:Nat) d zs,ds[i]? = some d->zss[i]? = some zs->∃as qs,H d=some (.lst (as.map PY))/\PairsAt H as qs zs
theorem BegsAt.same{H H':Hp}{ds:List Addr}{zss:List (List (List Int×Int))}(h:BegsAt H ds zss)(s:Same H H'):BegsAt H' ds zss:=⟨h.1,λi d zs e1 e2=>let⟨as,qs,a,b⟩:=h.2 i d zs e1 e2;⟨as,qs,s _ _ a,b.same s⟩⟩
def Gi:Sp:=λvs H Q _=>∃(a:Addr) (ds:List Addr) (zss:List (List (List Int×Int))),vs=[.ref a]/\H a=some (.lst (ds.map PY))/\BegsAt H ds zss/\zss.length<=201/\0<zss.length/\(∀zs∈zss,zs.length<=60/\∀z∈zs,z.1.length<=201)/\
 ∀(t:Addr) (n:Int) H',Same H H'->H' t=some (.tup [.int n,.int (fU zss)])->Q (.ref t) H'
theorem xM{f:Nat->Int}(h:Nat):(((GH n).map f).take (h+1)).sum=(((GH n).map f).take h).sum+(if h<n then f h else 0):=by
 rw[GS,IH,GE];by_cases g:h<n
 ·rw[Hu g,if_pos g];simp
 ·rw[JH (by simpa using g),if_neg g];simp
theorem iH (T:Tx K mg t):FnOk P t.wd K mg t.bs CX0 2 t.cF t.cC ["lists"] Gi:=by
 refine T.eU.okQ sc_ahead_of_first (λvs H Q E h=>?_) (λcdv A outer s H vs Q E hr h=>?_)
 ·obtain⟨a,ds,zss,rfl,_⟩:=h
  rfl
 ·obtain⟨a,ds,zss,rfl,ta,hB,hn,hp,hw,k⟩:=h
  refine⟨_,(ad (ar (i:=1) sc_ahead_of_first.nd rfl (GI rfl) af)
   (ad (ar (i:=2) sc_ahead_of_first.nd rfl (GI rfl) af)
   (ad (bC Ha rfl (bT rfl T.bn (ag (ax cK (ap (aW (K:=K)) (by rfl) T.bv aR (ag (qv 0) ac)) af) ac)) (ah (i:=3) sc_ahead_of_first.nd rfl (GI rfl)) (ad (ar (i:=4) sc_ahead_of_first.nd rfl (GI rfl) (ak (iG T) (hr.mono (by decide)) rfl T.jf T.eV.kp T.jd ay (ag (aJ (bg (K:=K)) (qv 0) (ax ca (qv 3) af)) ac)))
   (aj (bC Ha rfl (aE (K:=K) (aJ (bg (K:=K)) (qv 0) (qv 3))) (bp (K:=K) (n:=2) rfl (aq (ah (i:=5) sc_ahead_of_first.nd rfl (GI rfl)) (aq (ah (i:=6) sc_ahead_of_first.nd rfl (GI rfl)) aQ))) (aj (bR (aD wa (lY (oK hr) (qv 4) (aP (bL (K:=K)) (by rfl) T.bA bu (ag (qv 5) ac)) af) af (aK _)) (ad (iU (i:=1) sc_ahead_of_first.nd rfl (GI rfl) af kZ)
   (aj (iU (i:=2) sc_ahead_of_first.nd rfl (GI rfl) (qv 6) kZ))) bi))))))
   (aj (au (aT (ag (qv 1) (ag (qv 2) ac)))))))),?_⟩
  rw[show L2.start ["lists","steps","moves","column","goings_on","beginning","many"] [PY a]=[some (PY a),none,none,none,none,none,none]from rfl];nofun;refine aH (PP ta) ?_;rw[GA,hB.1];nofun;generalize hN:zss.length - 1=N at *;have eN:((zss.length:Nat):Int) - 1=((N:Nat):Int):=by lia
  rw[eN];refine⟨_,rfl,by lia,by lia,dG (n:=N) (λi σ H'=>Same H H'/\∃(st:Int) (v1 v2 v3 v4:Option V),σ=[some (PY a),some (PR st),some (PR ((((GH N).map λc=>Ax (zss.getD c []) (zss.getD (c+1) [])).take i).sum)),v1,v2,v3,v4]) ⟨PV _,0,_,_,_,_,rfl⟩ ?_ ?_⟩
  ·rintro c σ H1 hc ⟨s1,st,v1,v2,v3,v4,rfl⟩
   rw[xM,if_pos hc];generalize (((GH N).map λc=>Ax (zss.getD c []) (zss.getD (c+1) [])).take c).sum=mv;have h1:c+1<zss.length:=by lia
   have h0:c<zss.length:=by lia
   have e1:zss[c+1]? = some zss[c+1]:=by simp[h1]
   have e0:zss[c]? = some zss[c]:=by simp[h0]
   have d1:ds[c+1]? = some (ds[c+1]'(by rw[hB.1];exact h1)):=by simp[hB.1,h1]
   have d0:ds[c]? = some (ds[c]'(by rw[hB.1];exact h0)):=by simp[hB.1,h0]
   obtain⟨as1,qs1,t1,P1⟩:=(hB.same s1).2 _ _ _ d1 e1;obtain⟨as0,qs0,t0,P0⟩:=(hB.same s1).2 _ _ _ d0 e0;obtain⟨w1,w1'⟩:=hw zss[c+1] (GU h1);obtain⟨w0,w0'⟩:=hw zss[c] (GU h0);have g1:zss.getD (c+1) []=zss[c+1]:=by rw[GB,e1];rfl
   have g0:zss.getD c []=zss[c]:=by rw[GB,e0];rfl
   rw[g1,g0];generalize zss[c+1]=z1 at P1 w1 w1';generalize zss[c]=z0 at P0 w0 w0';generalize ds[c+1]'(by rw[hB.1];exact h1)=p1 at d1 t1;generalize ds[c]'(by rw[hB.1];exact h0)=p0 at d0 t0;nofun;have ec:(0:Int)+((c:Nat):Int)+1=((c+1:Nat):Int):=by lia
   have ec0:(0:Int)+((c:Nat):Int)=((c:Nat):Int):=by lia
   rw[ec];refine bB (PP (s1 _ _ ta)) (v:=PY p1) (aU (by rw[GE,d1];rfl)) ?_;refine⟨p1,as1,qs1,z1,rfl,t1,P1,w1,w1',λo cs H2 ho s2 to hC=>?_⟩;nofun;rw[ec0];refine bB (PP ((s1.trans s2) _ _ ta)) (v:=PY p0) (aU (by rw[GE,d0];rfl)) ?_;refine⟨p0,rfl,⟨_,PP (s2 _ _ t0)⟩,cI (a:=p0) (xs:=as0.map PY) (λi σ H'=>Same H2 H'/\∃(st:Int) (v3 v4:Option V),σ=[some (PY a),some (PR st),some (PR (mv+((z0.map λz=>if 1<(fw z1).count z.1 then z.2 else 0).take i).sum)),some (PR c),some (PY o),v3,v4]) ⟨PV _,st,v3,v4,by simp⟩ (λi σ H' _ h=>PP (h.1 _ _ (s2 _ _ t0))) ?_ ?_⟩
   ·rintro i x σ H3 hx ⟨s3,st,v3,v4,rfl⟩
    obtain⟨p,rfl,hp,_,hi⟩:=aA hx;have hiz:i<z0.length:=by rw[<-P0.1];exact hi
    have hiq:i<qs0.length:=by rw[P0.2.1];exact hiz
    have ez:z0[i]? = some z0[i]:=by simp[hiz]
    obtain⟨tp,tq⟩:=((P0.same s2).same s3).2.2 i p _ _ hp (Gz hiq) ez;have es:((z0.map λz=>if 1<(fw z1).count z.1 then z.2 else 0).take (i+1)).sum=((z0.map λz=>if 1<(fw z1).count z.1 then z.2 else 0).take i).sum+(if 1<(fw z1).count z0[i].1 then z0[i].2 else 0):=by
     rw[GS,IH,GE,ez];simp
    rw[es];generalize ((z0.map λz=>if 1<(fw z1).count z.1 then z.2 else 0).take i).sum=S;generalize qs0[i]=q at tp tq;generalize z0[i]=z at tp tq;refine aV tp ?_;nofun;refine⟨o,rfl,.inr ⟨_,.inl (s3 _ _ to)⟩,?_⟩;nofun;refine⟨q,_,rfl,.inr ⟨PQ tq,?_⟩⟩;nofun;refine⟨_,DGet.t (s3 _ _ to) (k:=iW z.1) (by rw[pE];exact tq),?_⟩;rw[CL hC];nofun;refine aS (λg=>?_) (λg=>?_)
    ·rw[if_pos ⋯]
     nofun;rw[Int.add_assoc];exact⟨s3,_,_,_,rfl⟩
    ·rw[if_neg ⋯]
     nofun;rw[Int.add_zero];exact⟨s3,_,_,_,rfl⟩
   ·rintro σ H3 ⟨s3,st,v3,v4,rfl⟩
    rw[GJ (by rw[GA,GA,P0.1];exact GF _)];exact⟨(s1.trans s2).trans s3,_,_,_,_,_,rfl⟩
  ·rintro σ H1 ⟨s1,st,v1,v2,v3,v4,rfl⟩
   rw[GJ (by simp)];nofun;refine⟨az (by simp),λt ht=>?_⟩;refine k t st _ (s1.new ht) ?_;rw[aa];unfold fU;rw[hN]
noncomputable def pF(rss:List (List Nat))(w b:Nat):Nat:=yy (bI rss w b)
noncomputable def g9(rss:List (List Nat)):Int:=yI (fS (bo rss rss.length))
def BgF(rss:List (List Nat))(w:Nat)(zss:List (List (List Int×Int))):Prop:=zss.length=(if rss=[]then 0 else w)+1/\∀(c:Nat) zs,zss[c]? = some zs->Bgs (bgs rss c) zs
def Rws(H:Hp)(l:Addr)(rss:List (List Nat))(w b:Nat):Prop:=(∃ps:List Addr,H l=some (.lst (ps.map PY))/\RowsT H ps rss)/\A5 rss w b/\rss.length<=60/\w<=200/\b<=64
theorem Rws.same{H H':Hp}{l:Addr}{rss:List (List Nat)}{w b:Nat}(h:Rws H l rss w b)(s:Same H H'):Rws H' l rss w b:=let⟨⟨ps,a,r⟩,x⟩:=h;⟨⟨ps,s _ _ a,r.same s⟩,x⟩
def ET:Sp:=λvs H Q _=>∃(a:Addr) (rss:List (List Nat)) (w b:Nat),vs=[.ref a,.int b]/\Rws H a rss w b/\∀H',Same H H'->Q (.int (pF rss w b:Nat)) H'
theorem vm{w:Nat}:∀r∈bI rss w b,r.length=b:=λr hr=>by
 unfold bI at hr;obtain⟨c,_,rfl⟩:=GX.mp hr;exact bt ..
theorem ml (T:Tx K mg t):FnOk P t.wd K mg t.bs CX0 3 t.cu t.fH ["rows","base"] ET:=by
 refine T.i0.okQ mh (λvs H Q E h=>?_) (λcdv A outer s H vs Q E hr h=>?_)
 ·obtain⟨a,rss,w,b,rfl,_⟩:=h
  rfl
 ·obtain⟨a,rss,w,b,rfl,⟨⟨ps,ta,hR⟩,hG,hn,hw,hb⟩,k⟩:=h
  refine⟨_,(aj (au (aJ (gK (K:=K)) (ak (i8 T) (hr.mono (by decide)) rfl T.kC T.fx.kp T.kf ay (ag (ak (xI T) (hr.mono (by decide)) rfl T.AY T.vE.kp T.AM ay (ag (qv 0) (ag (qv 1) ac))) ac)) af))),?_⟩;rw[show L2.start ["rows","base"] [PY a,PR b]=[some (PY a),some (PR b)]from rfl];nofun;refine⟨a,ps,rss,w,b,rfl,ta,hR,hG,hn,hw,hb,λl qs H1 hl _ _ s1 tl hQ=>?_⟩;nofun;refine⟨l,qs,bI rss w b,rfl,.inl ⟨tl,hQ⟩,by rw[jH];split<;>lia,λr hr=>by rw[vm r hr];exact hb,λt l2 H2 hl2 ht s2 tt tl2=>?_⟩;nofun;exact k H2 (s1.trans s2)
theorem lR{α:Type}[BEq α][LawfulBEq α]:∀{xs ys:List α},xs.Nodup->(∀x∈xs,x∈ys)->xs.length<=ys.length
 | [],_,_,_=>GR _
 | x::xs,ys,hn,h=>by
  rw[Iw]at hn;have hx:x∈ys:=h x (Hl ..);have ih:=lR (xs:=xs) (ys:=ys.erase x) hn.2 λz hz=>(MS λe=>hn.1 (by rw[<-e];exact hz)).mpr (h z (Hn _ hz))
  rw[LR hx]at ih;have:=List.length_pos_of_mem hx;rw[Hh];lia
theorem Ay{bs:List (List Int)}{zs:List (List Int×Int)}(h:Bgs bs zs):zs.length<=bs.length:=by
 have hn:(zs.map (·.1)).Nodup:=h.1.imp λ{a b} e z=>by
  rw[z]at e;have:=HT.dM _ _ e;rw[e]at this;cases this
 have:=lR hn λr hr=>(h.2.1 r).mp hr
 rwa [GA]at this
def EU:Sp:=λvs H Q _=>∃(a:Addr) (rss:List (List Nat)) (w b:Nat),vs=[.ref a,.int b]/\Rws H a rss w b/\∀zss H',BgF rss w zss->Same H H'->Q (.int (fU zss)) H'
theorem kO (T:Tx K mg t):FnOk P t.wd K mg t.bs CX0 3 t.bW t.eJ ["rows","base"] EU:=by
 refine T.ib.okQ kM (λvs H Q E h=>?_) (λcdv A outer s H vs Q E hr h=>?_)
 ·obtain⟨a,rss,w,b,rfl,_⟩:=h
  rfl
 ·obtain⟨a,rss,w,b,rfl,⟨⟨ps,ta,hR⟩,hG,hn,hw,hb⟩,k⟩:=h
  refine⟨_,(aj (au (aJ (gK (K:=K)) (ak (iH T) (hr.mono (by decide)) rfl T.je T.eU.kp T.jc ay (ag (aN (N:=["column","rows"]) (tgs:=["column"]) (frs:=["rows"]) (ix:=[0]) ⟨rfl,by decide +kernel,rfl,by decide +kernel,rfl,rfl,⟨⟨rfl,rfl,_,rfl,rfl⟩,GL⟩,⟨rfl,GL⟩,rfl⟩ rfl (bT rfl T.bn (ag (ax ca (ak (bU T) (hr.mono (by decide)) rfl T.cq T.bK.kp T.cn ay (ag (qv 0) ac)) af) ac)) (λ_ _ _ _=>(ah (i:=0) (by show G4 (["column","rows"]:List Str);decide +kernel) rfl (GI rfl))) (λ_ _ _ _=>(ak (mj T) (hr.mono (by decide)) rfl T.oq T.iX.kp T.oh ay (ag (qv 1) (ag (qv 0) ac))))) ac)) af))),?_⟩;rw[show L2.start ["rows","base"] [PY a,PR b]=[some (PY a),some (PR b)]from rfl];nofun;have hpl:ps.length=rss.length:=hR.1;have hcols:∀p,ps[0]? = some p->∃zs,(H p=some (.lst zs)\/H p=some (.tup zs))/\zs.length=w:=λp hp=>by
   have h0:0<rss.length:=by rw[<-hpl];exact aI hp
   have hl:=(hG rss[0] (GU h0)).1;have e0:rss[0]? = some rss[0]:=by simp
   exact⟨_,.inr (hR.2 0 p _ hp e0),by rw[aw];exact hl⟩
  refine⟨a,ps,rss,w,rfl,ta,hpl,hcols,?_⟩;nofun;have hW:(if rss=[]then 0 else w)<=w:=by split<;>lia
  have hW2:∀r∈rss,r.length=(if rss=[]then 0 else w):=λr hr=>by rw[(hG r hr).1,if_neg (λz=>by rw[z]at hr;cases hr)]
  have hk:∀zss H',BgF rss w zss->Same H H'->Q (.int (fU zss)) H':=k
  unfold BgF at hk;generalize (if rss=[]then 0 else w)=W at hW hW2 hk;have eW:((W:Nat):Int)+1=((W+1:Nat):Int):=by lia
  rw[eW];refine⟨_,rfl,by lia,by lia,lC (n:=W+1) (λi ys σ H'=>Same H H'/\(∃(qs:List Addr) (zss:List (List (List Int×Int))),ys=qs.map PY/\qs.length=i/\BegsAt H' qs zss/\∀(c:Nat) zs,zss[c]? = some zs->Bgs (bgs rss c) zs)/\∃v,σ=[v,some (PY a)]) (am ⋯) (λi ys σ H' h=>by obtain⟨_,⟨qs,zss,rfl,e,_⟩,_⟩:=h;rw[GA,e]) ⟨PV _,⟨[],[],rfl,rfl,⟨rfl,λi d zs h=>by simp at h⟩,λc zs h=>by simp at h⟩,none,rfl⟩ ?_ ?_⟩
  ·rintro c ys σ H1 hc ⟨s1,⟨qs,zss,rfl,hql,hB,hz⟩,v,rfl⟩
   rw[O0];nofun;refine⟨a,ps,rss,c,W,rfl,s1 _ _ ta,hR.same s1,hW2,by lia,by lia,by lia,λd as qs' zs H2 hd s2 td hP hb'=>?_⟩;refine PX hc ⟨s1.trans s2,⟨qs++[d],zss++[zs],by rw[GM];rfl,by simp[hql],⟨by simp[hB.1],λi d' z' e1 e2=>?_⟩,λc' z' e2=>?_⟩,_,rfl⟩
   ·rcases aG e1 with⟨l,e1⟩|⟨l,e1⟩
    ·rcases aG e2 with⟨_,e2⟩|⟨l',e2⟩
     ·exact(hB.same s2).2 i d' z' e1 e2
     ·have:=hB.1;lia
    ·rcases aG e2 with⟨l',e2⟩|⟨_,e2⟩
     ·have:=hB.1;lia
     ·rw[e1,e2];exact⟨as,qs',td,hP⟩
   ·rcases aG e2 with⟨_,e2⟩|⟨l',e2⟩
    ·exact hz c' z' e2
    ·have h1:=hB.1
     have:c'=c:=by lia
     rw[this,e2];exact hb'
  ·rintro ys σ H1 ⟨s1,⟨qs,zss,rfl,hql,hB,hz⟩,v,rfl⟩ l hl
   have s2:=s1.new (o:=.lst (qs.map PY)) hl;have hB2:=hB.same ((PV H1).new (o:=.lst (qs.map PY)) hl);have tl:(upd H1 l (.lst (qs.map PY))) l=some (.lst (qs.map PY)):=aa;generalize upd H1 l (.lst (qs.map PY))=H2 at s2 hB2 tl;have hzl:zss.length=W+1:=by rw[<-hB.1];exact hql
   nofun;refine⟨l,qs,zss,rfl,tl,hB2,by lia,by lia,λzs hzs=>?_,λt n H3 s3 tt=>?_⟩
   ·obtain⟨c,hc,e⟩:=IP hzs
    have hb':=hz c zs (by rw[Gz hc,e]);refine⟨HJ (Ay hb') (by unfold bgs;rw[GA];exact hn),λz hz'=>?_⟩;have hm:=(hb'.2.1 z.1).mp (GX.mpr ⟨z,hz',rfl⟩);unfold bgs at hm;obtain⟨r,hr,er⟩:=GX.mp hm;rw[<-er];unfold bE;rw[GA,G5];have:=hW2 r hr;lia
   ·nofun
    exact hk zss H3 ⟨hzl,hz⟩ (s2.trans s3)
def EV:Sp:=λvs H Q _=>∃(a:Addr) (rss:List (List Nat)) (w b:Nat),vs=[.ref a,.int b]/\Rws H a rss w b/\∀H',Same H H'->Q (.int (g9 rss)) H'
theorem mn (T:Tx K mg t):FnOk P t.wd K mg t.bs CX0 3 t.cw t.fI ["rows","base"] EV:=by
 refine T.i3.okQ mi (λvs H Q E h=>?_) (λcdv A outer s H vs Q E hr h=>?_)
 ·obtain⟨a,rss,w,b,rfl,_⟩:=h
  rfl
 ·obtain⟨a,rss,w,b,rfl,⟨⟨ps,ta,hR⟩,hG,hn,hw,hb⟩,k⟩:=h
  refine⟨_,(aj (au (aJ (gK (K:=K)) (ak (eT T) (hr.mono (by decide)) rfl T.fM T.cX.kp T.fC ay (ag (ak (vc T) (hr.mono (by decide)) rfl T.yV T.vD.kp T.yR ay (ag (qv 0) ac)) ac)) af))),?_⟩;rw[show L2.start ["rows","base"] [PY a,PR b]=[some (PY a),some (PR b)]from rfl];nofun;refine⟨a,ps,rss,rfl,ta,hR,hn,λl H1 hl s1 tl=>?_⟩;nofun;refine⟨l,_,rfl,.inl tl,HJ (jQ _ _) ⋯,λt st qs H2 hst s2 tt _ _=>?_⟩;nofun;exact k H2 (s1.trans s2)
def CN(K:GC)(t:Ad):V->Sp->Prop:=λv sp=>(v=.ref t.cu/\sp=ET)\/(v=.ref t.bW/\sp=EU)\/(v=.ref t.cw/\sp=EV)
def MvL (H:Hp) (l:Addr) (n1 n2 n3:Int):Prop:=∃t1 t2 t3:Addr,H l=some (.lst [.ref t1,.ref t2,.ref t3])/\H t1=some (.tup [.str "last",.int n1])/\H t2=some (.tup [.str "first",.int n2])/\H t3=some (.tup [.str "runs",.int n3])
inductive Kd
 | nu (ns:List Int)
 | pa (tb:List (Int×Nat))
 | te (zs:List Str)
noncomputable def Kd.name:Kd->Str
 | .nu _=>"number"
 | .pa _=>"part"
 | .te _=>"text"
noncomputable def Kd.len:Kd->Nat
 | .nu ns=>ns.length
 | .pa tb=>tb.length
 | .te zs=>zs.length
noncomputable def Kd.ok:Kd->Prop
 | .nu ns=>ns.length<=60/\∀x∈ns,-(10 ^ 18)<x/\x<10 ^ 18
 | .pa tb=>tb.length<=60/\(∀z∈tb,1<=z.2/\z.2<=60)/\∀z∈tb,-(10 ^ 18)<z.1/\z.1<10 ^ 18
 | .te zs=>zs.length<=60/\∀z∈zs,Ltr 30 z
noncomputable def KAt(H:Hp):Kd->List V->Prop
 | .nu ns,vs=>vs=ns.map PR
 | .pa tb,vs=>∃qs:List Addr,vs=qs.map PY/\PartsT H qs tb
 | .te zs,vs=>vs=zs.map PU
theorem KAt.same{H H':Hp}{k:Kd}{vs:List V}(h:KAt H k vs)(s:Same H H'):KAt H' k vs:=by
 cases k with
 | nu ns=>exact h
 | pa tb=>obtain⟨qs,e,p⟩:=h;exact⟨qs,e,p.same s⟩
 | te zs=>exact h
theorem KAt.len{H:Hp}{k:Kd}{vs:List V}(h:KAt H k vs):vs.length=k.len:=by
 cases k with
 | nu ns=>cases h;exact GA ..
 | pa tb=>obtain⟨qs,rfl,p⟩:=h;rw[GA];exact p.1
 | te zs=>cases h;exact GA ..
theorem Kd.ok.le{k:Kd}(h:k.ok):k.len<=60:=by cases k<;>exact h.1
noncomputable def dgN(n b m:Nat):List Nat:=(GH m).map λj=>n / b ^ (m - 1 - j) % b
theorem mo(n b m:Nat):(dgN n b m).length=m:=by simp[dgN]
theorem nQ(n b m:Nat):bE (dgN n b m)=dg n b m:=by
 unfold bE dgN dg;rw[Hv];rfl
theorem yJ(hb:2<=b):∀x∈dgN n b m,x<b:=λx hx=>by
 unfold dgN at hx;obtain⟨j,_,rfl⟩:=GX.mp hx;exact KS _ ⋯
noncomputable def trN(m:Nat)(z:Str):List Nat:=z.cps.toList.map (λc=>c - 96)++GY (m - z.length) 0
theorem CO(h:Ltr 30 z):bE (trN m z)=vh m z:=by
 unfold bE trN vh;rw[GM,Hv,Ka];congr 1;apply HN;intro c hc;have:=h.2 c hc;show((c - 96:Nat):Int)=(c:Int) - 96
 lia
theorem Az(h:z.length<=m):(trN m z).length=m:=by
 unfold trN;rw[GZ,GA,IY];have e:z.cps.toList.length=z.length:=by simp[Lx]
 lia
theorem CP(h:Ltr 30 z):∀x∈trN m z,x<27:=λx hx=>by
 unfold trN at hx;rcases G9.mp hx with hx|hx
 ·obtain⟨c,hc,rfl⟩:=GX.mp hx
  have:=h.2 c hc;lia
 ·have:=List.eq_of_mem_replicate hx
  lia
def xN(ns:List Int)(b:Nat)(rss:List (List Nat))(w:Nat):Prop:=∃zs,Spelt ns b zs w/\rss=zs.map λz=>dgN z b w
noncomputable def Kd.rows(b:Nat)(rss:List (List Nat))(w by':Nat):Kd->Prop
 | .nu ns=>xN ns b rss w/\by'=b
 | .pa tb=>xN (bj tb) b rss w/\by'=b
 | .te zs=>(CK zs w/\w<=30/\rss=zs.map (trN w))/\by'=27
theorem qG{H:Hp}(h:RowsAt H ps b m zs):RowsT H ps (zs.map λz=>dgN z b m):=by
 refine⟨by rw[GA];exact h.1,λi p r e1 e2=>?_⟩;obtain⟨z,hz,rfl⟩:=map_some e2;rw[bM,nQ];exact h.2 i p z e1 hz
theorem vn{H:Hp}{zs:List Str}(h:TRows H ps zs m)(hL:∀z∈zs,Ltr 30 z):RowsT H ps (zs.map (trN m)):=by
 refine⟨by rw[GA];exact h.1,λi p r e1 e2=>?_⟩;obtain⟨z,hz,rfl⟩:=map_some e2;rw[bM,CO (hL z (Hc hz))];exact h.2 i p z e1 hz
theorem nR{ns:List Int}{w:Nat}(h:xN ns b rss w)(hb:2<=b):A5 rss w b/\rss.length=ns.length/\w<=200:=by
 obtain⟨zs,hS,rfl⟩:=h;refine⟨λr hr=>?_,by rw[GA];exact hS.len,by have:=hS.few;lia⟩;obtain⟨z,_,rfl⟩:=GX.mp hr;exact⟨mo ..,yJ hb⟩
theorem Kd.rows.good{k:Kd}{w by':Nat}(h:k.rows b rss w by')(hk:k.ok)(hb:2<=b)(hb2:b<=64):A5 rss w by'/\rss.length=k.len/\w<=200/\by'<=64:=by
 cases k with
 | nu ns=>obtain⟨h,rfl⟩:=h;obtain⟨a,c,d⟩:=nR h hb;exact⟨a,c,d,hb2⟩
 | pa tb=>obtain⟨h,rfl⟩:=h;obtain⟨a,c,d⟩:=nR h hb;exact⟨a,c.trans (bw tb),d,hb2⟩
 | te zs=>
  obtain⟨⟨hM,hm,rfl⟩,rfl⟩:=h;refine⟨λr hr=>?_,GA ..,by lia,by decide⟩;obtain⟨z,hz,rfl⟩:=GX.mp hr;exact⟨Az (hM.1 z hz),CP (hk.2 z hz)⟩
def CQ(K:GC):Sp:=λvs H Q _=>∃(k:Kd) (us:List V) (a:Addr) (b:Nat),vs=[.str k.name,.ref a,.int b]/\(H a=some (.lst us)\/H a=some (.tup us))/\KAt H k us/\k.ok/\2<=b/\b<=64/\
 ∀(t l:Addr) (ps:List Addr) (rss:List (List Nat)) (w by':Nat) H',Same H H'->H' t=some (.tup [.int by',.ref l])->H' l=some (.lst (ps.map PY))->RowsT H' ps rss->k.rows b rss w by'->Q (.ref t) H'
theorem nT{K:GC}{H:Hp}{us:List V}(h:H a=some (.lst us)\/H a=some (.tup us)):SqL K H a us\/SqT K H a us:=h.elim (λh=>.inl (PP h)) λh=>.inr (PQ h)
theorem dP (T:Tx K mg t):FnOk P t.wd K mg t.bs CX0 4 t.kA t.kr ["kind","keys","base"] (CQ K):=by
 refine T.dQ.okQ rR (λvs H Q E h=>?_) (λcdv A outer s H vs Q E hr h=>?_)
 ·obtain⟨k,us,a,b,rfl,_⟩:=h
  rfl
 ·obtain⟨k,us,a,b,rfl,ta,hA,hk,hb,hb2,q⟩:=h
  refine⟨_,(ad (bR (aD v0 (qv 0) bX (aK _)) (aj (au (aT (ag (lW (v:=.int 27) rfl T.pQ ⟨_,rfl⟩) (ag (ak (nO T) (hr.mono (by decide)) rfl T.pS T.ke.kp T.pL ay (ag (qv 1) ac)) ac))))) bi)
   (ad (bR (aD v0 (qv 0) bX (aK _)) (aj (au (aT (ag (qv 2) (ag (ak (fT T) (hr.mono (by decide)) rfl T.ii T.eF.kp T.ie ay (ag (ak (ja T) (hr.mono (by decide)) rfl T.kF T.fB.kp T.km ay (ag (qv 1) ac)) (ag (qv 2) ac))) ac))))) bi)
   (aj (au (aT (ag (qv 2) (ag (ak (fT T) (hr.mono (by decide)) rfl T.ii T.eF.kp T.ie ay (ag (qv 1) (ag (qv 2) ac))) ac))))))),?_⟩
  rw[show L2.start ["kind","keys","base"] [PU k.name,PY a,PR b]=[some (PU k.name),some (PY a),some (PR b)]from rfl];cases k with
  | nu ns=>
   obtain rfl:us=ns.map PR:=hA;nofun;refine gI (show ¬PU (Hi "number")=PU (Hi "text")by decide) ?_;nofun;refine gI (show ¬PU (Hi "number")=PU (Hi "part")by decide) ?_;nofun;refine⟨a,ns,b,rfl,nT ta,hb,hb2,⟨by have:=hk.1;lia,λx hx=>by have:=hk.2 x hx;lia⟩,λl ps zs m H' hl sm tl hR hS=>?_⟩;nofun;exact⟨az (by simp),λt ht=>q t l ps _ m b _ (sm.new ht) aa (by rw[ai (ae tl ht)];exact tl) (qG (hR.same ((PV _).new ht))) ⟨⟨zs,hS,rfl⟩,rfl⟩⟩
  | pa tb=>
   obtain⟨qs,rfl,hP⟩:=hA;nofun;refine gI (show ¬PU (Hi "part")=PU (Hi "text")by decide) ?_;nofun;refine m8 rfl ?_;nofun;refine⟨a,qs,tb,rfl,by have:=hk.1;lia,hk.2.1,hk.2.2,ta.elim (λh=>.inl ⟨PP h,hP⟩) (λh=>.inr ⟨PQ h,hP⟩),λl0 hl0=>?_⟩;have sm0:=(PV H).new (o:=.lst ((bj tb).map PR)) hl0;have t0:(upd H l0 (.lst ((bj tb).map PR))) l0=some (.lst ((bj tb).map PR)):=aa;generalize upd H l0 (.lst ((bj tb).map PR))=H0 at sm0 t0;nofun;refine⟨l0,bj tb,b,rfl,.inl (PP t0),hb,hb2,⟨by rw[bw];have:=hk.1;lia,tQ hk.2.1 hk.2.2⟩,λl ps zs m H' hl sm tl hR hS=>?_⟩;nofun;exact⟨az (by simp),λt ht=>q t l ps _ m b _ ((sm0.trans sm).new ht) aa (by rw[ai (ae tl ht)];exact tl) (qG (hR.same ((PV _).new ht))) ⟨⟨zs,hS,rfl⟩,rfl⟩⟩
  | te zs=>
   obtain rfl:us=zs.map PU:=hA;nofun;refine m8 rfl ?_;nofun;refine⟨a,zs,rfl,nT ta,by have:=hk.1;lia,hk.2,λl ps m H' hl sm tl hR hM hm=>?_⟩;nofun;exact⟨az (by simp),λt ht=>q t l ps _ m 27 _ (sm.new ht) aa (by rw[ai (ae tl ht)];exact tl) (vn (hR.same ((PV _).new ht)) hk.2) ⟨⟨hM,hm,rfl⟩,rfl⟩⟩
def Gj(k:Kd)(b:Nat)(n1 n2 n3:Int):Prop:=∃(rss:List (List Nat)) (w by':Nat) (zss:List (List (List Int×Int))),k.rows b rss w by'/\BgF rss w zss/\n1=(pF rss w by':Nat)/\n2=fU zss/\n3=g9 rss
def Gk(K:GC):Sp:=λvs H Q _=>∃(k:Kd) (us:List V) (a:Addr) (b:Nat),vs=[.str k.name,.ref a,.int b]/\(H a=some (.lst us)\/H a=some (.tup us))/\KAt H k us/\k.ok/\2<=b/\b<=64/\
 ∀(l:Addr) (n1 n2 n3:Int) H',H l=none->Same H H'->MvL H' l n1 n2 n3->Gj k b n1 n2 n3->Q (.ref l) H'
theorem fV (T:Tx K mg t):FnOk P t.wd K mg t.bs CX0 5 t.eP t.eK ["kind","keys","base"] (Gk K):=by
 refine T.eE.okQ sc_moves_ahead (λvs H Q E h=>?_) (λcdv A outer s H vs Q E hr h=>?_)
 ·obtain⟨k,us,a,b,rfl,_⟩:=h
  rfl
 ·obtain⟨k,us,a,b,rfl,ta,hA,hk,hb,hb2,q⟩:=h
  refine⟨_,(ad (dY (ak (dP T) (hr.mono (by decide)) rfl T.fN T.dQ.kp T.fD ay (ag (qv 0) (ag (qv 1) (ag (qv 2) ac)))) (bp (K:=K) (n:=2) rfl (aq (ah (i:=3) sc_moves_ahead.nd rfl (GI rfl)) (aq (ah (i:=4) sc_moves_ahead.nd rfl (GI rfl)) aQ))))
   (ad (ar (i:=5) sc_moves_ahead.nd rfl (GI rfl) (ba ac))
   (ad (bC Ha rfl (jA (K:=K) (lW (v:=.ref t.i4) rfl T.C7 rfl)) (ah (i:=6) sc_moves_ahead.nd rfl (GI rfl)) (ad (ar (i:=7) sc_moves_ahead.nd rfl (GI rfl) (aJ (Cy T.vX) (lW (v:=.ref t.iJ) rfl T.AU rfl) (qv 6)))
   (aj (bx (be (K:=K) (qv 5) (ag (aT (ag (qv 6) (ag (qE (R:=CN K t) (qv 7) (λv sp h=>by
     rcases h with⟨rfl,rfl⟩|⟨rfl,rfl⟩|⟨rfl,rfl⟩
     ·exact⟨_,_,_,_,_,rfl,ml T,hr.mono (by decide),T.i0.kp,T.on,ay⟩
     ·exact⟨_,_,_,_,_,rfl,kO T,hr.mono (by decide),T.ib.kp,T.mE,ay⟩
     ·exact⟨_,_,_,_,_,rfl,mn T,hr.mono (by decide),T.i3.kp,T.oo,ay⟩) (ag (qv 4) (ag (qv 3) ac))) ac))) ac))))))
   (aj (au (qv 5)))))),?_⟩
  rw[show L2.start ["kind","keys","base","by","rows","told","way","ahead"] [PU k.name,PY a,PR b]=[some (PU k.name),some (PY a),some (PR b),none,none,none,none,none]from rfl];nofun;refine⟨k,us,a,b,rfl,ta,hA,hk,hb,hb2,λp0 l ps rss w by' H1 s1 tt tl hR hr=>?_⟩;obtain⟨hG,hrl,hw,hby⟩:=hr.good hk hb hb2;have hrn:rss.length<=60:=by rw[hrl];exact hk.le
  refine aV tt ?_;nofun;refine⟨az (by simp),λo ho=>?_⟩;have hW:Rws H1 l rss w by':=⟨⟨ps,tl,hR⟩,hG,hrn,hw,hby⟩;have s2:=s1.new (o:=.lst []) ho;have hW:=hW.same ((PV H1).new (o:=.lst []) ho);have hon:H o=none:=s1.free ho;have hlo:l≠o:=ae tl ho;have to:(upd H1 o (.lst [])) o=some (.lst (([]:List Addr).map PY)):=aa;generalize upd H1 o (.lst [])=H2 at s2 hW to;nofun;refine⟨t.i4,rfl,⟨_,T.qR _⟩,oE (a:=t.i4) (xs:=[.str "last",.str "first",.str "runs"]) (λi σ H'=>Same H H'/\Rws H' l rss w by'/\(∃(ts:List Addr),H' o=some (.lst (ts.map PY))/\ts.length=i/\(∀t1,ts[0]? = some t1->H' t1=some (.tup [.str "last",.int (pF rss w by':Nat)]))/\(∀t2,ts[1]? = some t2->∃zss,BgF rss w zss/\H' t2=some (.tup [.str "first",.int (fU zss)]))/\(∀t3,ts[2]? = some t3->H' t3=some (.tup [.str "runs",.int (g9 rss)])))/\∃v1 v2,σ=[some (PU k.name),some (PY a),some (PR b),some (PR by'),some (PY l),some (PY o),v1,v2]) ⟨s2,hW,⟨[],to,rfl,λ_ h=>by simp at h,λ_ h=>by simp at h,λ_ h=>by simp at h⟩,_,_,rfl⟩ (λi σ H' _ _=>T.qR _) ?_ ?_⟩
  ·rintro i x σ H3 hx ⟨s3,hW3,⟨ts,to3,hts,h1,h2,h3⟩,v1,v2,rfl⟩
   have put:∀(x:V) (H4:Hp) (D:Ends),Same H3 H4->True:=λ_ _ _ _=>trivial
   have wrest:∀(H4 H5:Hp) (xs:List V),Same H3 H4->(∀c u,c≠o->H4 c=some u->H5 c=some u)->Rws H5 l rss w by':=λH4 H5 xs s4 k=>by
    obtain⟨⟨ps',a1,a2⟩,a3⟩:=hW3.same s4;have to4:=s4 _ _ to3;exact⟨⟨ps',k _ _ hlo a1,a2.1,λi p r e1 e2=>k _ _ (dU (a2.2 i p r e1 e2) to4 (by intro c;cases c)) (a2.2 i p r e1 e2)⟩,a3⟩
   match i,hx with
   | 0,hx=>
    cases hx;nofun;refine⟨_,_,rfl,rfl,rfl,?_⟩;nofun;refine⟨aX to3,?_⟩;nofun;refine⟨ET,.inl ⟨rfl,rfl⟩,?_⟩;nofun;refine⟨l,rss,w,by',rfl,hW3,λH4 s4=>?_⟩;nofun;refine⟨az (by simp),λq1 hq1=>?_⟩;have s5:=s4.new (o:=.tup [.str "last",.int (pF rss w by':Nat)]) hq1;have tq:(upd H4 q1 (.tup [.str "last",.int (pF rss w by':Nat)])) q1=some (.tup [.str "last",.int (pF rss w by':Nat)]):=aa;generalize upd H4 q1 (.tup [.str "last",.int (pF rss w by':Nat)])=H5 at s5 tq;nofun;have to5:=s5 _ _ to3;refine aL to5 (by rw[GA,hts];decide) ?_;have hne:q1≠o:=λz=>by rw[z,to5]at tq;cases tq
    have hk:∀c u ys,c≠o->H5 c=some u->(upd H5 o ys) c=some u:=λc u ys hc e=>by rw[ai hc];exact e
    obtain rfl:=Ib.mp hts;exact⟨(s3.trans s5).own hon,wrest H5 _ [] s5 λc u hc e=>hk c u _ hc e,⟨[q1],aa,rfl,λt1 e=>by cases e;exact hk _ _ _ hne tq,λ_ h=>by simp at h,λ_ h=>by simp at h⟩,_,_,rfl⟩
   | 1,hx=>
    cases hx;nofun;refine⟨_,_,rfl,rfl,rfl,?_⟩;nofun;refine⟨aX to3,?_⟩;nofun;refine⟨EU,.inr (.inl ⟨rfl,rfl⟩),?_⟩;nofun;refine⟨l,rss,w,by',rfl,hW3,λzss H4 hz s4=>?_⟩;nofun;refine⟨az (by simp),λq1 hq1=>?_⟩;have s5:=s4.new (o:=.tup [.str "first",.int (fU zss)]) hq1;have tq:(upd H4 q1 (.tup [.str "first",.int (fU zss)])) q1=some (.tup [.str "first",.int (fU zss)]):=aa;generalize upd H4 q1 (.tup [.str "first",.int (fU zss)])=H5 at s5 tq;nofun;have to5:=s5 _ _ to3;refine aL to5 (by rw[GA,hts];decide) ?_;have hne:q1≠o:=λz=>by rw[z,to5]at tq;cases tq
    have hk:∀c u ys,c≠o->H5 c=some u->(upd H5 o ys) c=some u:=λc u ys hc e=>by rw[ai hc];exact e
    match ts,hts with
    | [t1],_=>
     exact⟨(s3.trans s5).own hon,wrest H5 _ [] s5 λc u hc e=>hk c u _ hc e,⟨[t1,q1],aa,rfl,λt1 e=>by cases e;exact hk _ _ _ (dU (h1 _ rfl) to3 (by intro c;cases c)) (s5 _ _ (h1 _ rfl)),λt2 e=>by cases e;exact⟨zss,hz,hk _ _ _ hne tq⟩,λ_ h=>by simp at h⟩,_,_,rfl⟩
   | 2,hx=>
    cases hx;nofun;refine⟨_,_,rfl,rfl,rfl,?_⟩;nofun;refine⟨aX to3,?_⟩;nofun;refine⟨EV,.inr (.inr ⟨rfl,rfl⟩),?_⟩;nofun;refine⟨l,rss,w,by',rfl,hW3,λH4 s4=>?_⟩;nofun;refine⟨az (by simp),λq1 hq1=>?_⟩;have s5:=s4.new (o:=.tup [.str "runs",.int (g9 rss)]) hq1;have tq:(upd H4 q1 (.tup [.str "runs",.int (g9 rss)])) q1=some (.tup [.str "runs",.int (g9 rss)]):=aa;generalize upd H4 q1 (.tup [.str "runs",.int (g9 rss)])=H5 at s5 tq;nofun;have to5:=s5 _ _ to3;refine aL to5 (by rw[GA,hts];decide) ?_;have hne:q1≠o:=λz=>by rw[z,to5]at tq;cases tq
    have hk:∀c u ys,c≠o->H5 c=some u->(upd H5 o ys) c=some u:=λc u ys hc e=>by rw[ai hc];exact e
    match ts,hts with
    | [t1,t2],_=>
     exact⟨(s3.trans s5).own hon,wrest H5 _ [] s5 λc u hc e=>hk c u _ hc e,⟨[t1,t2,q1],aa,rfl,λt1 e=>by cases e;exact hk _ _ _ (dU (h1 _ rfl) to3 (by intro c;cases c)) (s5 _ _ (h1 _ rfl)),λt2 e=>by
      cases e;obtain⟨zss,hz,e2⟩:=h2 _ rfl;exact⟨zss,hz,hk _ _ _ (dU e2 to3 (by intro c;cases c)) (s5 _ _ e2)⟩,λt3 e=>by cases e;exact hk _ _ _ hne tq⟩,_,_,rfl⟩
   | i+3,hx=>simp at hx
  ·rintro σ H3 ⟨s3,hW3,⟨ts,to3,hts,h1,h2,h3⟩,v1,v2,rfl⟩
   nofun
   match ts,hts with
   | [t1,t2,t3],_=>
    obtain⟨zss,hz,e2⟩:=h2 t2 rfl;exact q o _ _ _ H3 hon s3 ⟨t1,t2,t3,to3,h1 t1 rfl,e2,h3 t3 rfl⟩ ⟨rss,w,by',zss,hr,hz,rfl,rfl,rfl⟩
def xO:Sp:=λvs H Q _=>∃(a:Addr) (cs:List Nat),vs=[.ref a]/\(H a=some (.lst (NV cs))/\True)/\cs.length<=64/\∀(l:Addr) H',H l=none->Same H H'->H' l=some (.lst (NV (tY cs)))->Q (.ref l) H'
theorem nU (T:Tx K mg t):FnOk P t.wd K mg t.bs CX0 1 t.mL t.mF ["counts"] xO:=by
 refine T.mC.okQ sc_begins (λvs H Q E h=>?_) (λcdv A outer s H vs Q E hr h=>?_)
 ·obtain⟨a,cs,rfl,_⟩:=h
  rfl
 ·obtain⟨a,cs,rfl,ta,hcl,k⟩:=h
  obtain⟨ta,_⟩:=ta
  ·refine⟨_,(ad (ar (i:=1) sc_begins.nd rfl (GI rfl) (ba ac))
   (ad (ar (i:=2) sc_begins.nd rfl (GI rfl) af)
   (ad (bC Ha rfl (aE (K:=K) (qv 0)) (ah (i:=3) sc_begins.nd rfl (GI rfl)) (ad (bx (be (K:=K) (qv 1) (ag (qv 2) ac)))
   (aj (iU (i:=2) sc_begins.nd rfl (GI rfl) (qv 3) kZ))))
   (aj (au (qv 1)))))),?_⟩
   rw[show L2.start ["counts","lesser","so_far","many"] [PY a]=[some (PY a),none,none,none]from rfl];nofun;refine⟨az (by simp),λl hl=>?_⟩;have s1:=(PV H).new (o:=.lst []) hl;have t1:(upd H l (.lst [])) l=some (.lst (NV ((tY cs).take 0))):=aa;generalize upd H l (.lst [])=H1 at s1 t1;nofun;refine⟨a,rfl,⟨_,PP (s1 _ _ ta)⟩,cI (a:=a) (xs:=NV cs) (λi σ H'=>Same H H'/\H' l=some (.lst (NV ((tY cs).take i)))/\∃v,σ=[some (PY a),some (PY l),some (PR ((cs.take i).sum:Nat)),v]) ⟨s1,t1,none,rfl⟩ (λi σ H' _ h=>PP (h.1 _ _ ta)) ?_ ?_⟩
   ·rintro i x σ H2 hx ⟨s2,t2,v,rfl⟩
    obtain⟨o,rfl,ho,hom,hi⟩:=aA hx;nofun;refine⟨aX t2,?_⟩;nofun;refine aL t2 (by rw[aw,G5,jk];exact am ⋯) ?_;rw[bJ,<-tZ hi];have e:(((cs.take i).sum:Nat):Int)+(o:Int)=((cs.take (i+1)).sum:Nat):=by rw[GS,ho,IH];simp
    nofun;exact⟨s2.own hl,aa,some (PR (o:Nat)),by rw[<-e];rfl⟩
   ·rintro σ H2 ⟨s2,t2,v,rfl⟩
    rw[GJ (by rw[aw,jk];exact GF _)]at t2;nofun;exact k l H2 hl s2 t2
def EW:Sp:=λvs H Q _=>∃(a:Addr) (os:List Nat) (b:Nat),vs=[.ref a,.int b]/\H a=some (.lst (NV os))/\(∀o∈os,o<b)/\os.length<=60/\b<=64/\∀(l:Addr) (ob:List Nat) H',H l=none->Same H H'->H' l=some (.lst (NV ob))->ByF os ob->Q (.ref l) H'
theorem getD_some{os:List Nat}{o:Nat}(h:os[i]? = some o):os.getD i 0=o:=by rw[GB,h];rfl
theorem dj (T:Tx K mg t):FnOk P t.wd K mg t.bs CX0 2 t.cj t.cg ["row","base"] EW:=by
 refine T.cf.okQ sc_order_by_figure (λvs H Q E h=>?_) (λcdv A outer s H vs Q E hr h=>?_)
 ·obtain⟨a,os,b,rfl,_⟩:=h
  rfl
 ·obtain⟨a,os,b,rfl,ta,hob,hol,hb,k⟩:=h
  refine⟨_,(ad (ar (i:=2) sc_order_by_figure.nd rfl (GI rfl) (ak (nU T) (hr.mono (by decide)) rfl T.qQ T.mC.kp T.qP ay (ag (ak (g7 T) (hr.mono (by decide)) rfl T.jt T.ia.kp T.js ay (ag (qv 0) (ag (qv 1) ac))) ac)))
   (ad (ar (i:=3) sc_order_by_figure.nd rfl (GI rfl) (ax wM (ba (ag af ac)) (ap (aW (K:=K)) (by rfl) T.bv aR (ag (qv 0) ac))))
   (ad (bC Ha rfl (nc (K:=K) rfl T.df (ag (qv 0) ac)) (bp (K:=K) (n:=2) rfl (aq (ah (i:=4) sc_order_by_figure.nd rfl (GI rfl)) (aq (ah (i:=5) sc_order_by_figure.nd rfl (GI rfl)) aQ))) (ad (kY (qv 4) (qv 3) (aJ (bg (K:=K)) (qv 2) (qv 5)))
   (aj (qj (K:=K) (qv 2) (qv 5) af))))
   (aj (au (qv 3)))))),?_⟩
  rw[show L2.start ["row","base","marks","order","place","figure"] [PY a,PR b]=[some (PY a),some (PR b),none,none,none,none]from rfl];nofun;refine⟨a,os,b,rfl,⟨ta,trivial⟩,hob,by lia,hb,λc H1 hc0 s1 tc=>?_⟩;nofun;refine⟨c,cnt os b,rfl,⟨tc,trivial⟩,by rw[bt];exact hb,λm H2 hm0 s2 tm=>?_⟩;have hmn:H m=none:=s1.free hm0;have s12:=s1.trans s2;nofun;refine⟨az (by simp),λq0 hq0=>?_⟩;have s3:=s12.new (o:=.lst [PR 0]) hq0;have tm3:(upd H2 q0 (.lst [PR 0])) m=some (.lst (NV (tY (cnt os b)))):=by rw[ai (ae tm hq0)];exact tm
  have t0:(upd H2 q0 (.lst [PR 0])) q0=some (.lst [PR 0]):=aa;generalize upd H2 q0 (.lst [PR 0])=H3 at s3 tm3 t0;nofun;refine aH (PP (s3 _ _ ta)) ?_;rw[aw];refine⟨q0,_,_,rfl,rfl,t0,by lia,by lia,az (by simp;lia),λd hd=>?_⟩;have efl:(GY ((os.length:Nat):Int).toNat [PR 0]).flatten=NV (GY os.length 0):=by
   show(GY os.length [PR 0]).flatten=_
   rw[Jo,NV,Ka];rfl
  rw[efl];have hdn:H d=none:=s3.free hd;have hmd:m≠d:=ae tm3 hd;have s4:=s3.new (o:=.lst (NV (GY os.length 0))) hd;have tm4:(upd H3 d (.lst (NV (GY os.length 0)))) m=some (.lst (NV (tY (cnt os b)))):=by rw[ai hmd];exact tm3
  have td:(upd H3 d (.lst (NV (GY os.length 0)))) d=some (.lst (NV (GY os.length 0))):=aa;generalize upd H3 d (.lst (NV (GY os.length 0)))=H4 at s4 tm4 td;nofun;refine⟨a,rfl,⟨_,PP (s4 _ _ ta)⟩,jF (n:=os.length) (λi σ H'=>Same H H'/\(∃ms ds:List Nat,H' m=some (.lst (NV ms))/\H' d=some (.lst (NV ds))/\ms.length=b/\ds.length=os.length/\(∀f,f<b->ms[f]? = some (bG os f+(os.take i).count f))/\∀j,j<i->ds[e8 os j]? = some j)/\∃v w,σ=[some (PY a),some (PR b),some (PY m),some (PY d),v,w]) ⟨s4,⟨_,_,tm4,td,by rw[jk,bt],by simp,λf hf=>?_,λj h=>absurd h (Mo _)⟩,none,none,rfl⟩ ?_ ?_ ?_ ?_⟩
  ·rw[jl (by rw[bt];exact hf),bO os b f ⋯];rfl
  ·rintro i σ H5 hi ⟨s5,_⟩
   exact⟨_,_,PP (s5 _ _ ta),gM (o:=os[i]) (by simp[hi])⟩
  ·rintro σ H5 ⟨s5,_⟩
   exact⟨_,PP (s5 _ _ ta),by rw[aw]⟩
  ·rintro i x σ H5 H6 hi ⟨s5,⟨ms,ds,tm5,td5,hml,hdl,hms,hds⟩,v,w,rfl⟩ ⟨q,x1,rfl,hq,rfl,hx1⟩
   have ei:os[i]? = some os[i]:=by simp[hi]
   have hx2:=hx1 _ (PP (s5 _ _ ta));rw[gM ei]at hx2;obtain rfl:=G8 hx2;have hfb:=hob os[i] (GU hi);have eg:=getD_some ei;have esp:e8 os i=bG os os[i]+(os.take i).count os[i]:=by unfold e8;rw[eg]
   have hsl:=oZ hi;have hcs:=cQ hi;rw[eg]at hcs;generalize os[i]=f at *;refine aV aa ?_;dsimp only[HV];have s6:=s5.new (o:=.tup [PR (i:Nat),PR (f:Nat)]) hq;have tm6:(upd H5 q (.tup [PR (i:Nat),PR (f:Nat)])) m=some (.lst (NV ms)):=by rw[ai (ae tm5 hq)];exact tm5
   have td6:(upd H5 q (.tup [PR (i:Nat),PR (f:Nat)])) d=some (.lst (NV ds)):=by rw[ai (ae td5 hq)];exact td5
   generalize upd H5 q (.tup [PR (i:Nat),PR (f:Nat)])=H6 at s6 tm6 td6;nofun;refine bB (PP tm6) (kI rfl (hms f hfb)) ?_;rw[<-esp];nofun;refine kW td6 (ng rfl (by rw[aw,hdl];exact hsl)) ?_;rw[qi];have s7:=s6.own (o:=.lst (NV (ds.set (e8 os i) i))) hdn;have tm7:(upd H6 d (.lst (NV (ds.set (e8 os i) i)))) m=some (.lst (NV ms)):=by rw[ai hmd];exact tm6
   have td7:(upd H6 d (.lst (NV (ds.set (e8 os i) i)))) d=some (.lst (NV (ds.set (e8 os i) i))):=aa;generalize upd H6 d (.lst (NV (ds.set (e8 os i) i)))=H7 at s7 tm7 td7;nofun;refine⟨m,_,_,_,rfl,rfl,PP tm7,by lia,gM (hms f hfb),?_⟩;nofun;refine⟨_,_,rfl,rfl,?_⟩;refine kW tm7 (ng rfl (by rw[aw,hml];exact hfb)) ?_;refine⟨s7.own hmn,⟨ms.set f (bG os f+(os.take i).count f+1),ds.set (e8 os i) i,?_,by rw[ai (Hx hmd)];exact td7,by simpa using hml,by simpa using hdl,λg hg=>?_,λj hj=>?_⟩,_,_,rfl⟩
   ·rw[aa]
    show some (HO.lst ((NV ms).set f (PR ((bG os f+(os.take i).count f+1:Nat):Int))))=_
    rw[qi]
   ·rw[Kl]
    by_cases e:f=g
    ·subst e
     rw[if_pos rfl,if_pos ⋯,hcs];rfl
    ·rw[if_neg e,hms g hg,GS,ei,IK]
     have:Pi g [f]=0:=ID.mpr (by simp;exact λz=>e z.symm);simp only[MX,this,OU]
   ·rw[Kl]
    by_cases e:e8 os i=e8 os j
    ·have hij:=qk hi ⋯ e
     rw[if_pos e,if_pos ⋯,hij]
    ·rw[if_neg e]
     have:j≠i:=λz=>e (by rw[z])
     exact hds j ⋯
  ·rintro σ H5 ⟨s5,⟨ms,ds,tm5,td5,hml,hdl,hms,hds⟩,v,w,rfl⟩
   nofun;exact k d ds H5 hdn s5 td5 ⟨hdl,hds⟩
def OrdR(rss:List (List Nat))(os:List Nat):Prop:=os.Perm (GH rss.length)/\os.Pairwise (Rk rss 0)
def StepsL(H:Hp)(st:Addr)(qs:List Addr):Prop:=∀q∈qs,∃(c:Int) (l:Addr) (ns:List Nat),H q=some (.tup [.int c,.ref l])/\H l=some (.lst (NV ns))/\l≠st
theorem StepsL.same{H:Hp}{st:Addr}(h:StepsL H st qs)(s:Same H H1):StepsL H1 st qs:=λq hq=>by
 obtain⟨c,l,ns,e1,e2,e3⟩:=h q hq;exact⟨c,l,ns,s _ _ e1,s _ _ e2,e3⟩
theorem StepsL.own{H:Hp}{st:Addr}(h:StepsL H st qs)(hx:H st=some (.lst xs)):StepsL (upd H st (.lst ys)) st qs:=λq hq=>by
 obtain⟨c,l,ns,e1,e2,e3⟩:=h q hq;exact⟨c,l,ns,by rw[ai (dU e1 hx (by intro c;cases c))];exact e1,by rw[ai e3];exact e2,e3⟩
theorem StepsL.snoc{H:Hp}{st:Addr}{c:Int}{ns:List Nat}(h:StepsL H st qs)(e1:H q=some (.tup [.int c,.ref l]))(e2:H l=some (.lst (NV ns)))(e3:l≠st):StepsL H st (qs++[q]):=λp hp=>by
 rcases G9.mp hp with g|g
 ·exact h p g
 ·rw[G1.mp g];exact⟨c,l,ns,e1,e2,e3⟩
def AA:Sp:=λvs H Q _=>∃(a:Addr) (rss:List (List Nat)) (w b:Nat),vs=[.ref a,.int b]/\Rws H a rss w b/\
 ∀(t o st:Addr) (qs:List Addr) (os:List Nat) H',H' t=some (.tup [.ref o,.ref st])->H' o=some (.lst (NV os))->OrdR rss os->H' st=some (.lst (qs.map PY))->StepsL H' st qs->qs.length<=200->H t=none->H o=none->Same H H'->Q (.ref t) H'
theorem nV (T:Tx K mg t):FnOk P t.wd K mg t.bs CX0 3 t.gw t.gq ["rows","base"] AA:=by
 refine T.ka.okQ sc_from_last (λvs H Q E h=>?_) (λcdv A outer s H vs Q E hr h=>?_)
 ·obtain⟨a,rss,w,b,rfl,_⟩:=h
  rfl
 ·obtain⟨a,rss,w,b,rfl,⟨⟨ps,ta,hR⟩,hG,hn,hw,hb⟩,k⟩:=h
  have hwl:∀r∈rss,r.length=w:=λr hr=>(hG r hr).1
  have hpl:ps.length=rss.length:=hR.1;have hcols:∀p,ps[0]? = some p->∃zs,(H p=some (.lst zs)\/H p=some (.tup zs))/\zs.length=w:=λp hp=>by
   have h0:0<rss.length:=by rw[<-hpl];exact aI hp
   have hl:=(hG rss[0] (GU h0)).1;exact⟨_,.inr (hR.2 0 p _ hp (Gz h0)),by rw[aw];exact hl⟩
  have eM:=jH rss w b;have hM:(bI rss w b).length<=w:=by rw[eM];split<;>lia
  have hMr:∀r∈rss,r.length<=(bI rss w b).length:=λr hr=>by rw[eM,if_neg (λz=>by rw[z]at hr;cases hr),hwl r hr];exact GF _
  refine⟨_,(ad (ar (i:=2) sc_from_last.nd rfl (Iu rfl) (lD rfl rfl T.fY rfl T.bn (ag (ap (aW (K:=K)) (by rfl) T.bv aR (ag (qv 0) ac)) ac)))
   (ad (ar (i:=3) sc_from_last.nd rfl (GI rfl) (ba ac))
   (ad (bC Ha rfl (jI rfl T.bn (ag (ax cK (ak (bU T) (hr.mono (by decide)) rfl T.cq T.bK.kp T.cn ay (ag (qv 0) ac)) af) (ag (jz jC af) (ag (jz jC af) ac)))) (ah (i:=4) sc_from_last.nd rfl (Iu rfl)) (ad (io (i:=5) (N:=["place","rows","column"]) (tgs:=["place"]) (frs:=["rows","column"]) (ix:=[0,4])  sc_from_last.nd rfl (GI rfl) ⟨rfl,by decide +kernel,rfl,by decide +kernel,rfl,rfl,⟨⟨rfl,rfl,_,rfl,rfl⟩,⟨rfl,rfl,_,rfl,rfl⟩,GL⟩,⟨rfl,rfl,GL⟩,rfl⟩ rfl (aE (K:=K) (qv 2)) (λ_ _ _ _=>(ah (i:=0) (by show G4 (["place","rows","column"]:List Str);decide +kernel) rfl (GI rfl))) (λ_ _ _ _=>(aJ (gK (K:=K)) (aJ (bg (K:=K)) (qv 1) (qv 0)) (qv 2))))
   (aj (bR (ff (ak (ft T) (hr.mono (by decide)) rfl T.gA T.eD.kp T.gp ay (ag (ak (g7 T) (hr.mono (by decide)) rfl T.jt T.ia.kp T.js ay (ag (qv 5) (ag (qv 1) ac))) ac))) (ad (ar (i:=2) sc_from_last.nd rfl (Iu rfl) (aN (N:=["at","order"]) (tgs:=["at"]) (frs:=["order"]) (ix:=[2]) ⟨rfl,by decide +kernel,rfl,by decide +kernel,rfl,rfl,⟨⟨rfl,rfl,_,rfl,rfl⟩,GL⟩,⟨rfl,GL⟩,rfl⟩ rfl (aE (K:=K) (ak (dj T) (hr.mono (by decide)) rfl T.dS T.cf.kp T.dR ay (ag (qv 5) (ag (qv 1) ac)))) (λ_ _ _ _=>(ah (i:=0) (by show G4 (["at","order"]:List Str);decide +kernel) rfl (GI rfl))) (λ_ _ _ _=>(aJ (bg (K:=K)) (qv 1) (qv 0)))))
   (aj (bx (be (K:=K) (qv 3) (ag (aT (ag (qv 4) (ag (aP (zG (K:=K)) (by rfl) T.fY me (ag (qv 2) ac)) ac))) ac))))) bi))))
   (aj (au (aT (ag (qv 2) (ag (qv 3) ac)))))))),?_⟩
  rw[show L2.start ["rows","base","order","steps","column","row"] [PY a,PR b]=[some (PY a),some (PR b),none,none,none,none]from rfl];nofun;refine aH (PP ta) ?_;rw[GA,hpl];nofun;refine⟨rss.length,rfl,by lia,λo0 ho0=>?_⟩;rw[lE];have er:((GH rss.length).map λi=>0+i)=GH rss.length:=by simp
  rw[er];have s1:=(PV H).new (o:=.lst (NV (GH rss.length))) ho0;have to0:(upd H o0 (.lst (NV (GH rss.length)))) o0=some (.lst (NV (GH rss.length))):=aa;generalize upd H o0 (.lst (NV (GH rss.length)))=H1 at s1 to0;nofun;refine⟨az (by simp),λst hst=>?_⟩;have hstn:H st=none:=s1.free hst;have h0s:o0≠st:=ae to0 hst;have s2:=s1.new (o:=.lst []) hst;have to2:(upd H1 st (.lst [])) o0=some (.lst (NV (GH rss.length))):=by rw[ai h0s];exact to0
  have tst:(upd H1 st (.lst [])) st=some (.lst (([]:List Addr).map PY)):=aa;generalize upd H1 st (.lst [])=H2 at s2 to2 tst;nofun;refine⟨a,ps,rss,w,rfl,s2 _ _ ta,hpl,(λp hp=>by obtain⟨zs,h,e⟩:=hcols p hp;exact⟨zs,h.elim (λh=>.inl (s2 _ _ h)) (λh=>.inr (s2 _ _ h)),e⟩),?_⟩;rw[<-eM];nofun;refine⟨_,rfl,by lia,jF (n:=(bI rss w b).length) (λi σ H'=>Same H H'/\(∃(o:Addr) (os:List Nat) (qs:List Addr),H' o=some (.lst (NV os))/\os.Perm (GH rss.length)/\os.Pairwise (Rk rss ((bI rss w b).length - i))/\H o=none/\o≠st/\H' st=some (.lst (qs.map PY))/\qs.length<=i/\StepsL H' st qs/\∃v w,σ=[some (PY a),some (PR b),some (PY o),some (PY st),v,w])) ⟨s2,o0,_,[],to2,Jh _,nw hMr,ho0,h0s,tst,GF _,(λq h=>nomatch h),_,_,rfl⟩ (λi σ H' hi _=>hi) (λσ H' _=>GF _) ?_ ?_⟩
  ·rintro i x σ H3o H3 hi ⟨s3,o,os,qs,to3,hP,hW,hon,hos,ts3,hsl,hS,v,w',rfl⟩ ⟨rfl,rfl⟩
   have hosl:os.length=rss.length:=by have:=hP.length_eq;simpa using this
   have hcm:(bI rss w b).length - 1 - i<(bI rss w b).length:=by lia
   have ec1:(bI rss w b).length - i=(bI rss w b).length - 1 - i+1:=by lia
   have ec2:(bI rss w b).length - (i+1)=(bI rss w b).length - 1 - i:=by lia
   rw[ec1]at hW;rw[ec2];generalize (bI rss w b).length - 1 - i=c at hcm hW;have hcw:c<w:=by lia
   have hrow:=lF (os:=os) (xs:=bS rss c) (by rw[j5];exact hP);nofun;refine⟨o,rfl,⟨_,PP to3⟩,aF (a:=o) (vs:=NV os) (λi ys σ H'=>H'=H3/\i<=os.length/\ys=NV ((os.map λp=>(bS rss c).getD p 0).take i)/\∃v,σ=[v,some (PY a),some (PR c)]) (by rw[aw];exact am ⋯) (λi ys σ H' h=>by rw[h.2.2.1,aw,G5,GA];lia) (λi ys σ H' h=>by rw[h.1];exact PP to3) ⟨rfl,GR _,rfl,none,rfl⟩ ?_ ?_⟩
   ·rintro j ys σ H' x hx ⟨rfl,_,rfl,v,rfl⟩
    have hil:=aI hx;obtain⟨q,rfl,hq,hqm,hj⟩:=aA hx;have hqn:q<rss.length:=by simpa using hP.mem_iff.mp hqm
    have hqp:q<ps.length:=by lia
    have er:rss[q]? = some rss[q]:=by simp[hqn]
    obtain⟨g1,g2⟩:=pC hG er hcw;nofun;refine bB (PP (s3 _ _ ta)) (v:=PY ps[q]) (aU (by rw[GE];simp[hqp])) ?_;nofun;refine pY (PQ (s3 _ _ (hR.2 q ps[q] _ (by simp[hqp]) er))) (kI rfl g1) ?_;refine PX hil ⟨rfl,hj,?_,_,rfl⟩;rw[bJ,GS,GE,hq];show _=NV (_++[(bS rss c).getD q 0])
    rw[getD_some g2]
   rintro ys σ H' ⟨rfl,_,rfl,v,rfl⟩ z hz;rw[GJ (by rw[aw,GA];exact GF _)];have hrl:(os.map λp=>(bS rss c).getD p 0).length=rss.length:=by rw[GA];exact hosl
   have hrb:∀x∈os.map λp=>(bS rss c).getD p 0,x<b:=λx hx=>nM hG hcw x (hrow.mem_iff.mp hx)
   have ecn:cnt (os.map λp=>(bS rss c).getD p 0) b=cnt (bS rss c) b:=wW hrow;have hstep:∀ob,ByF (os.map λp=>(bS rss c).getD p 0) ob->(cmp os ob).Pairwise (Rk rss c):=λob hB=>wY hwl hcw hP hW hB
   generalize (os.map λp=>(bS rss c).getD p 0)=row at hrl hrb ecn hstep;have s34:=(PV H').new (o:=.lst (NV row)) hz;have tz:(upd H' z (.lst (NV row))) z=some (.lst (NV row)):=aa;generalize upd H' z (.lst (NV row))=H4 at s34 tz;nofun;refine⟨z,row,b,rfl,⟨tz,trivial⟩,hrb,by lia,hb,λcc H5 hcc s5 tcc=>?_⟩;nofun;refine⟨cc,cnt row b,rfl,.inl tcc,by rw[bt];exact hb,λH6 s6=>?_⟩;have s36:=s34.trans (s5.trans s6);have tz6:=s6 _ _ (s5 _ _ tz);rw[ecn];nofun;by_cases hp:dH (cnt (bS rss c) b)=true
   ·rw[if_pos hp]
    nofun;refine⟨z,row,b,rfl,tz6,hrb,by lia,hb,λd ob H7 hd0 s7 td hB=>?_⟩;have hO:=hB.ord;rw[hrl]at hO;have s37:=s36.trans s7;have to7:=s37 _ _ to3;nofun;refine⟨d,rfl,⟨_,PP td⟩,aF (a:=d) (vs:=NV ob) (λi ys σ H'=>H'=H7/\i<=ob.length/\ys=NV ((cmp os ob).take i)/\∃v,σ=[v,some (PY o)]) (by rw[aw,hO.len];exact am ⋯) (λi ys σ H' h=>by rw[h.2.2.1,aw,G5,ip];lia) (λi ys σ H' h=>by rw[h.1];exact PP td) ⟨rfl,GR _,rfl,none,rfl⟩ ?_ ?_⟩
    ·rintro j ys σ H9 x hx ⟨rfl,_,rfl,v,rfl⟩
     have hil:=aI hx;obtain⟨q,rfl,hq,hqm,hj⟩:=aA hx;have hqn:=hO.lt q hqm;have hqo:q<os.length:=by lia
     nofun;refine bB (PP to7) (kI rfl (o:=os[q]) (by simp[hqo])) ?_;refine PX hil ⟨rfl,hj,?_,_,rfl⟩;rw[bJ,GS,oW hq (r:=os[q]) (by simp[hqo])];rfl
    rintro ys σ H9 ⟨rfl,_,rfl,v,rfl⟩ y hy;rw[GJ (by rw[aw,ip];exact GF _)];have hP2:(cmp os ob).Perm (GH rss.length):=by
     have h1:=lF (os:=ob) (xs:=os) (by rw[hosl];exact hO.perm);exact h1.trans hP
    have hyn:H y=none:=s3.free (s37.free hy);have hys:y≠st:=λe=>by have:=s37 _ _ ts3;rw[<-e,hy]at this;cases this
    have s8:=(PV H9).new (o:=.lst (NV (cmp os ob))) hy;have ty:(upd H9 y (.lst (NV (cmp os ob)))) y=some (.lst (NV (cmp os ob))):=aa;generalize upd H9 y (.lst (NV (cmp os ob)))=H8 at s8 ty;have s38:=s37.trans s8;have ts8:=s38 _ _ ts3;nofun;refine⟨aX ts8,?_⟩;nofun;refine tH (.inl (PP ty)) λl2 hl2=>?_
    have sA:=(PV H8).new (o:=.lst (NV (cmp os ob))) hl2;have tl2:(upd H8 l2 (.lst (NV (cmp os ob)))) l2=some (.lst (NV (cmp os ob))):=aa;have hl2s:l2≠st:=λe=>by rw[e,ts8]at hl2;cases hl2
    generalize upd H8 l2 (.lst (NV (cmp os ob)))=HA at sA tl2;nofun;refine⟨az (by simp),λtq htq=>?_⟩;have sB:=(PV HA).new (o:=.tup [PR (c:Nat),PY l2]) htq;have ttq:(upd HA tq (.tup [PR (c:Nat),PY l2])) tq=some (.tup [PR (c:Nat),PY l2]):=aa;generalize upd HA tq (.tup [PR (c:Nat),PY l2])=HB at sB ttq;have s3B:=s38.trans (sA.trans sB);have tsB:=s3B _ _ ts3;nofun;refine aL tsB (by rw[GA];exact am ⋯) ?_;refine⟨(s3.trans s3B).own hstn,y,cmp os ob,qs++[tq],by rw[ai hys];exact sB _ _ (sA _ _ ty),hP2,hstep ob hB,hyn,hys,by rw[aa,GM];rfl,by rw[GZ];exact LX hsl,((hS.same s3B).snoc ttq (sB _ _ tl2) hl2s).own tsB,_,_,rfl⟩
   ·rw[if_neg hp]
    nofun;exact⟨s3.trans s36,o,os,qs,s36 _ _ to3,hP,wZ hwl (nM hG hcw) hcw hP hW hp,hon,hos,s36 _ _ ts3,by lia,hS.same s36,_,_,rfl⟩
  ·rintro σ H3 ⟨s3,o,os,qs,to3,hP,hW,hon,hos,ts3,hsl,hS,v,w',rfl⟩
   rw[LY]at hW;nofun;refine⟨az (by simp),λt ht=>?_⟩;exact k t o st qs os _ aa (by rw[ai (ae to3 ht)];exact to3) ⟨hP,hW⟩ (by rw[ai (ae ts3 ht)];exact ts3) (hS.same ((PV H3).new ht)) ⋯ (s3.free ht) hon (s3.new ht)
def AB:Sp:=λvs H Q _=>∃(f c:Nat) (a:Addr) (cs:List Nat),vs=[.int f,.ref a,.int c]/\H a=some (.lst (NV cs))/\cs.length<=64/\∀(l:Addr) (qs:List Addr) H',H l=none->Same H H'->H' l=some (.lst (qs.map PY))->TrAt H' qs (bq f cs c)->Q (.ref l) H'
theorem pG(h:i<cs.length):(bq f cs c).take (i+1)=(bq f cs c).take i++[(f+(cs.take i).sum,f+(cs.take i).sum+cs.getD i 0,c)]:=by
 unfold bq;rw[GS,GE,Hu h];rfl
theorem ll(f c:Nat)(cs:List Nat):(bq f cs c).length=cs.length:=by unfold bq;simp
theorem pH (T:Tx K mg t):FnOk P t.wd K mg t.bs CX0 2 t.iQ t.iM ["first","often","column"] AB:=by
 refine T.lq.okQ pv (λvs H Q E h=>?_) (λcdv A outer s H vs Q E hr h=>?_)
 ·obtain⟨f,c,a,cs,rfl,_⟩:=h
  rfl
 ·obtain⟨f,c,a,cs,rfl,ta,hcl,k⟩:=h
  refine⟨_,(aj (au (aN (N:=["begin","many","first","column"]) (tgs:=["begin","many"]) (frs:=["first","column"]) (ix:=[0,2]) ⟨rfl,by decide +kernel,rfl,by decide +kernel,rfl,rfl,⟨⟨rfl,rfl,_,rfl,rfl⟩,⟨rfl,rfl,_,rfl,rfl⟩,GL⟩,⟨rfl,rfl,GL⟩,rfl⟩ rfl (B4 (K:=K) rfl T.yd (ag (ak (nU T) (hr.mono (by decide)) rfl T.qQ T.mC.kp T.qP ay (ag (qv 1) ac)) (ag (qv 1) ac))) (λ_ _ _ _=>(bp (K:=K) (n:=2) rfl (aq (ah (i:=0) (by show G4 (["begin","many","first","column"]:List Str);decide +kernel) rfl (GI rfl)) (aq (ah (i:=1) (by show G4 (["begin","many","first","column"]:List Str);decide +kernel) rfl (GI rfl)) aQ)))) (λ_ _ _ _=>(aT (ag (ax ca (qv 2) (qv 0)) (ag (ax ca (ax ca (qv 2) (qv 0)) (qv 1)) (ag (qv 3) ac)))))))),?_⟩;rw[show L2.start ["first","often","column"] [PR f,PY a,PR c]=[some (PR f),some (PY a),some (PR c)]from rfl];nofun;refine⟨a,cs,rfl,⟨ta,trivial⟩,hcl,λd H1 hd s1 td=>?_⟩;have ta1:=s1 _ _ ta;nofun;refine⟨d,a,rfl,⟨_,PP td⟩,⟨_,PP ta1⟩,qh (n:=cs.length) (λi ys σ H'=>Same H1 H'/\(∃qs:List Addr,ys=qs.map PY/\qs.length=i/\TrAt H' qs ((bq f cs c).take i))/\∃v w,σ=[v,w,some (PR f),some (PR c)]) (am ⋯) (λi ys σ H' h=>by obtain⟨_,⟨qs,rfl,e,_⟩,_⟩:=h;rw[GA,e]) ⟨PV _,⟨[],rfl,rfl,rfl,λi q s h=>by simp at h⟩,none,none,rfl⟩ ?_ ?_ ?_ ?_⟩
  ·rintro i ys σ H2 hi ⟨s2,_⟩
   exact⟨_,_,PR ((cs.take i).sum:Nat),PR (cs[i]:Nat),PP (s2 _ _ td),PP (s2 _ _ ta1),gM (jl hi),gM (by simp[hi])⟩
  ·rintro ys σ H2 ⟨s2,_⟩
   exact⟨_,_,PP (s2 _ _ td),PP (s2 _ _ ta1),.inl (by rw[aw,jk];exact GF _)⟩
  ·rintro i x ys σ H2 H3 hi ⟨s2,⟨qs,rfl,hql,hQ⟩,v,w,rfl⟩ ⟨p,x1,y1,rfl,hp,rfl,hx1,hy1⟩
   have hx2:=hx1 _ (PP (s2 _ _ td));have hy2:=hy1 _ (PP (s2 _ _ ta1));rw[gM (jl hi)]at hx2;rw[gM (o:=cs[i]) (by simp[hi])]at hy2;obtain rfl:=G8 hx2;obtain rfl:=G8 hy2;refine aV aa ?_;dsimp only[HV];have s3:=s2.new (o:=.tup [PR ((cs.take i).sum:Nat),PR (cs[i]:Nat)]) hp;have Q3:=hQ.same ((PV H2).new (o:=.tup [PR ((cs.take i).sum:Nat),PR (cs[i]:Nat)]) hp);generalize upd H2 p (.tup [PR ((cs.take i).sum:Nat),PR (cs[i]:Nat)])=H3 at s3 Q3;have e1:(f:Int)+((cs.take i).sum:Nat)=((f+(cs.take i).sum:Nat):Int):=by lia
   have eg:cs.getD i 0=cs[i]:=by rw[GB,Gz hi];rfl
   have e2:((f+(cs.take i).sum:Nat):Int)+(cs[i]:Nat)=((f+(cs.take i).sum+cs[i]:Nat):Int):=by lia
   nofun;rw[e1,e2];refine⟨az (by simp),λt ht=>?_⟩;refine PX hi ⟨s3.new ht,⟨qs++[t],by rw[GM];rfl,by simp[hql],?_⟩,_,_,rfl⟩;rw[pG hi,eg];exact(Q3.same ((PV _).new ht)).snoc aa
  ·rintro ys σ H2 ⟨s2,⟨qs,rfl,hql,hQ⟩,v,w,rfl⟩ l hl
   rw[GJ (by rw[ll];exact GF _)]at hQ;exact k l qs _ (s1.free (s2.free hl)) ((s1.trans s2).new hl) aa (hQ.same ((PV H2).new hl))
def xP:Sp:=λvs H Q _=>∃(a:Addr) (rss:List (List Nat)) (w b:Nat),vs=[.ref a,.int b]/\Rws H a rss w b/\
 ∀(t o st:Addr) (zs:List Addr) (os:List Nat) (sts:List eS) H',sts.length<=60->H' t=some (.tup [.ref o,.ref st])->H' o=some (.lst (NV os))->OrdR rss os->H' st=some (.lst (zs.map PY))->TrAt H' zs sts->H t=none->H o=none->Same H H'->Q (.ref t) H'
theorem mq (T:Tx K mg t):FnOk P t.wd K mg t.bs CX0 3 t.fK t.fG ["rows","base"] xP:=by
 refine T.iZ.okQ sc_from_first (λvs H Q E h=>?_) (λcdv A outer s H vs Q E hr h=>?_)
 ·obtain⟨a,rss,w,b,rfl,_⟩:=h
  rfl
 ·obtain⟨a,rss,w,b,rfl,⟨⟨ps,hta,hR⟩,hG,hn,hw,hb⟩,k⟩:=h
  have hpl:ps.length=rss.length:=hR.1;have hwl:∀r∈rss,r.length=w:=λr hr=>(hG r hr).1
  have ta:=hta
  ·refine⟨_,(ad (ar (i:=2) sc_from_first.nd rfl (GI rfl) (lD rfl rfl T.fY rfl T.bn (ag (ap (aW (K:=K)) (by rfl) T.bv aR (ag (qv 0) ac)) ac)))
   (ad (ar (i:=3) sc_from_first.nd rfl (GI rfl) (ba ac))
   (ad (ar (i:=4) sc_from_first.nd rfl (GI rfl) (ak (bU T) (hr.mono (by decide)) rfl T.cq T.bK.kp T.cn ay (ag (qv 0) ac)))
   (ad (ar (i:=5) sc_from_first.nd rfl (GI rfl) (ba (ag (aT (ag af (ag (ap (aW (K:=K)) (by rfl) T.bv aR (ag (qv 0) ac)) (ag af ac)))) ac)))
   (ad (dX Ha (ji (K:=K) (qv 5)) (ad (dY (tT (K:=K) (qv 5)) (bp (K:=K) (n:=3) rfl (aq (ah (i:=6) sc_from_first.nd rfl (GI rfl)) (aq (ah (i:=7) sc_from_first.nd rfl (GI rfl)) (aq (ah (i:=8) sc_from_first.nd rfl (Iu rfl)) aQ)))))
   (ad (bR (QW.qt (lB (aD yr (ax cK (qv 7) (qv 6)) af (aK _)) (iT (aD v0 (qv 8) (qv 4) (aK _))))) (aj zN) bi)
   (ad (ar (i:=9) sc_from_first.nd rfl (Iu rfl) (cJ (oS (K:=K)) (qv 2) (bN (qv 6)) (bN (qv 7))))
   (ad (io (i:=10) (N:=["place","rows","column"]) (tgs:=["place"]) (frs:=["rows","column"]) (ix:=[0,8])  sc_from_first.nd rfl (GI rfl) ⟨rfl,by decide +kernel,rfl,by decide +kernel,rfl,rfl,⟨⟨rfl,rfl,_,rfl,rfl⟩,⟨rfl,rfl,_,rfl,rfl⟩,GL⟩,⟨rfl,rfl,GL⟩,rfl⟩ rfl (aE (K:=K) (qv 9)) (λ_ _ _ _=>(ah (i:=0) (by show G4 (["place","rows","column"]:List Str);decide +kernel) rfl (GI rfl))) (λ_ _ _ _=>(aJ (gK (K:=K)) (aJ (bg (K:=K)) (qv 1) (qv 0)) (qv 2))))
   (ad (ar (i:=11) sc_from_first.nd rfl (GI rfl) (ak (g7 T) (hr.mono (by decide)) rfl T.jt T.ia.kp T.js ay (ag (qv 10) (ag (qv 1) ac))))
   (ad (bR (ff (ak (ft T) (hr.mono (by decide)) rfl T.gA T.eD.kp T.gp ay (ag (qv 11) ac))) (ad (yA (aN (N:=["at","stretch"]) (tgs:=["at"]) (frs:=["stretch"]) (ix:=[9]) ⟨rfl,by decide +kernel,rfl,by decide +kernel,rfl,rfl,⟨⟨rfl,rfl,_,rfl,rfl⟩,GL⟩,⟨rfl,GL⟩,rfl⟩ rfl (aE (K:=K) (ak (dj T) (hr.mono (by decide)) rfl T.dS T.cf.kp T.dR ay (ag (qv 10) (ag (qv 1) ac)))) (λ_ _ _ _=>(ah (i:=0) (by show G4 (["at","stretch"]:List Str);decide +kernel) rfl (GI rfl))) (λ_ _ _ _=>(aJ (bg (K:=K)) (qv 1) (qv 0)))) (qv 2) (qv 6) (qv 7))
   (aj (bx (be (K:=K) (qv 3) (ag (aT (ag (qv 6) (ag (qv 7) (ag (qv 8) ac)))) ac))))) bi)
   (aj (bx (ni (K:=K) (qv 5) (ag (yu (K:=K) (ak (pH T) (hr.mono (by decide)) rfl T.se T.lq.kp T.rZ ay (ag (qv 6) (ag (qv 11) (ag (ax ca (qv 8) af) ac))))) ac)))))))))))
   (aj (au (aT (ag (qv 2) (ag (qv 3) ac)))))))))),?_⟩
   rw[show L2.start ["rows","base","order","steps","columns","waiting","first","last","column","stretch","row","often"] [PY a,PR b]=[some (PY a),some (PR b),none,none,none,none,none,none,none,none,none,none]from rfl];nofun;refine aH (PP ta) ?_;rw[GA,hpl];nofun;refine⟨rss.length,rfl,by lia,λo ho=>?_⟩;rw[lE];have er:((GH rss.length).map λi=>0+i)=GH rss.length:=by simp
   rw[er];have s1:=(PV H).new (o:=.lst (NV (GH rss.length))) ho;have to0:(upd H o (.lst (NV (GH rss.length)))) o=some (.lst (NV (GH rss.length))):=aa;generalize upd H o (.lst (NV (GH rss.length)))=H1 at s1 to0;nofun;refine⟨az (by simp),λst hst=>?_⟩;have hstn:H st=none:=s1.free hst;have h0s:o≠st:=ae to0 hst;have s2:=s1.new (o:=.lst []) hst;have to2:(upd H1 st (.lst [])) o=some (.lst (NV (GH rss.length))):=by rw[ai h0s];exact to0
   have tst:(upd H1 st (.lst [])) st=some (.lst []):=aa;generalize upd H1 st (.lst [])=H2 at s2 to2 tst;nofun;refine⟨a,ps,rss,w,rfl,s2 _ _ ta,hpl,(λp hp=>by
    have h0:0<rss.length:=by rw[<-hpl];exact aI hp
    exact⟨_,.inr (s2 _ _ (hR.2 0 p _ hp (Gz h0))),by rw[aw];exact(hG rss[0] (GU h0)).1⟩),?_⟩
   have hC:∀r∈rss,r.length=(if rss=[]then 0 else w):=λr hr=>by rw[if_neg (λz=>by rw[z]at hr;cases hr)];exact hwl r hr
   have hCw:(if rss=[]then 0 else w)<=w:=by split<;>lia
   generalize (if rss=[]then 0 else w)=C at hC hCw k;nofun;refine aH (PP (s2 _ _ ta)) ?_;rw[GA,hpl];nofun;refine⟨az (by simp),λt0 ht0=>?_⟩;have s3:=s2.new (o:=.tup [PR 0,PR (rss.length:Nat),PR 0]) ht0;have to3:(upd H2 t0 (.tup [PR 0,PR (rss.length:Nat),PR 0])) o=some (.lst (NV (GH rss.length))):=by rw[ai (ae to2 ht0)];exact to2
   have ts3:(upd H2 t0 (.tup [PR 0,PR (rss.length:Nat),PR 0])) st=some (.lst []):=by rw[ai (ae tst ht0)];exact tst
   have tt0:(upd H2 t0 (.tup [PR 0,PR (rss.length:Nat),PR 0])) t0=some (.tup [PR ((0:Nat):Int),PR (rss.length:Nat),PR ((0:Nat):Int)]):=aa;generalize upd H2 t0 (.tup [PR 0,PR (rss.length:Nat),PR 0])=H3 at s3 to3 ts3 tt0;nofun;refine⟨az (by simp),λwl hwl0=>?_⟩;have hwn:H wl=none:=s3.free hwl0;have how:o≠wl:=ae to3 hwl0;have hsw:st≠wl:=ae ts3 hwl0;have s4:=s3.new (o:=.lst [PY t0]) hwl0;have to4:(upd H3 wl (.lst [PY t0])) o=some (.lst (NV (GH rss.length))):=by rw[ai how];exact to3
   have ts4:(upd H3 wl (.lst [PY t0])) st=some (.lst []):=by rw[ai hsw];exact ts3
   have tw4:(upd H3 wl (.lst [PY t0])) wl=some (.lst ([t0].map PY)):=aa;have T4:TrAt (upd H3 wl (.lst [PY t0])) [t0] [(0,rss.length,0)]:=by
    refine⟨rfl,λi q s a b=>?_⟩
    match i,a,b with
    | 0,a,b=>cases a;cases b;rw[ai (ae tt0 hwl0)];exact tt0
    | i+1,a,_=>simp at a
   generalize upd H3 wl (.lst [PY t0])=H4 at s4 to4 ts4 tw4 T4;nofun;refine⟨λm σ H'=>∃(ws:List eS) (qs:List Addr) (os:List Nat) (zs:List Addr),m=lI b C ws/\Same H H'/\H' o=some (.lst (NV os))/\H' st=some (.lst (zs.map PY))/\H' wl=some (.lst (qs.map PY))/\TrAt H' qs ws/\Msd rss C os ws/\Low b ws/\zs.length+gS ws<=60/\(∃sts,TrAt H' zs sts)/\∃v6 v7 v8 v9 va vb,σ=[some (PY a),some (PR b),some (PY o),some (PY st),some (PR C),some (PY wl),v6,v7,v8,v9,va,vb],⟨_,_,_,_,[],rfl,s4,to4,ts4,tw4,T4,Msd.start rss C,(λi s e=>?_),?_,⟨[],rfl,λi q s h=>by simp at h⟩,_,_,_,_,_,_,rfl⟩,?_⟩
   ·match i,e with
    | 0,_=>exact GR _
    | i+1,e=>simp at e
   ·show 0+(rss.length - 0 - 1+0)<=60
    lia
   rintro m σ H5 ⟨ws,qs,os,zs,rfl,s5,to5,ts5,tw5,T5,M5,L5,ph5,⟨sts,TZ5⟩,v6,v7,v8,v9,va,vb,rfl⟩;nofun;refine⟨_,Ey (PP tw5),?_⟩;by_cases hq0:qs=[]
   ·have hw0:ws=[]:=Ib.mp (by rw[<-T5.1,hq0];rfl)
    subst hq0 hw0;rw[if_neg (by simp)];nofun;refine⟨az (by simp),λt ht=>?_⟩;exact k t o st zs os sts _ (by rw[<-TZ5.1];lia) aa (by rw[ai (ae to5 ht)];exact to5) ⟨M5.perm,M5.done⟩ (by rw[ai (ae ts5 ht)];exact ts5) (TZ5.same ((PV H5).new ht)) (s5.free ht) ho (s5.new ht)
   obtain⟨rs,q,vs,⟨f,l,c⟩,rfl,rfl,Tr,tq⟩:=T5.last hq0;have tq:H5 q=some (.tup [.int (f:Nat),.int (l:Nat),.int (c:Nat)]):=tq;have hne:(!((rs++[q]).map PY).isEmpty)=true:=by simp
   rw[if_pos hne];refine⟨_,λ_ _ z=>z,?_⟩;nofun;refine⟨aX tw5,?_⟩;rw[GM]at tw5;refine t8 tw5 ?_;have s6:=s5.own (o:=.lst (rs.map PY)) hwn;have to6:(upd H5 wl (.lst (rs.map PY))) o=some (.lst (NV os)):=by rw[ai how];exact to5
   have ts6:(upd H5 wl (.lst (rs.map PY))) st=some (.lst (zs.map PY)):=by rw[ai hsw];exact ts5
   have TZ6:TrAt (upd H5 wl (.lst (rs.map PY))) zs sts:=TZ5.own tw5;have tw6:(upd H5 wl (.lst (rs.map PY))) wl=some (.lst (rs.map PY)):=aa;have T6:TrAt (upd H5 wl (.lst (rs.map PY))) rs vs:=Tr.own tw5;have tq6:(upd H5 wl (.lst (rs.map PY))) q=some (.tup [.int (f:Nat),.int (l:Nat),.int (c:Nat)]):=by rw[ai (dU tq tw5 (by intro c;cases c))];exact tq
   generalize upd H5 wl (.lst (rs.map PY))=H6 at s6 to6 ts6 tw6 T6 tq6 TZ6;refine gR tq6 ?_;dsimp only[HV];have hok:f<=l/\l<=rss.length/\c<=C:=M5.ok (f,l,c) (GG _ (G1.mpr rfl));obtain⟨hfl,hln,hcC⟩:=hok;have hosl:os.length=rss.length:=by have:=M5.perm.length_eq;simpa using this
   rw[o7]at ph5;have ph5:zs.length+(gS vs+(l - f - 1))<=60:=ph5;nofun;refine aS (λg1=>?_) (λg1=>?_)
   ·nofun
    exact⟨_,qp b C vs (f,l,c),vs,rs,os,zs,rfl,s6,to6,ts6,tw6,T6,M5.skip hC (.inl ⋯),L5.left,by lia,⟨sts,TZ6⟩,_,_,_,_,_,_,rfl⟩
   nofun;refine aS (λg2=>?_) (λg2=>?_)
   ·have ecC:c=C:=Oh (PR.inj g2)
    nofun;exact⟨_,qp b C vs (f,l,c),vs,rs,os,zs,rfl,s6,to6,ts6,tw6,T6,M5.skip hC (.inr ecC),L5.left,by lia,⟨sts,TZ6⟩,_,_,_,_,_,_,rfl⟩
   have hcC':c<C:=by
    have:c≠C:=λz=>g2 (by rw[z])
    lia
   have hcw:c<w:=by lia
   nofun;refine⟨_,rfl,?_⟩;nofun;refine⟨_,rfl,?_⟩;refine⟨o,_,rfl,PP to6,λz hz=>?_⟩;rw[ub os hfl ⋯];have hsl:((os.drop f).take (l - f)).length=l - f:=by rw[G5,Ig];lia
   have hsm:∀x∈(os.drop f).take (l - f),x<rss.length:=λx hx=>by simpa using M5.perm.mem_iff.mp (List.mem_of_mem_drop (KO hx))
   have hstep:=λob hB=>M5.step (ob:=ob) hC hcC' (nM hG hcw) hB
   have hback:os.take f++(os.drop f).take (l - f)++os.drop l=os:=by
    have e1:os.drop l=(os.drop f).drop (l - f):=by rw[Ke];congr 1;lia
    rw[e1,HY,JI,JI]
   generalize (os.drop f).take (l - f)=seg at hsl hsm hstep hback;have s67:=(PV H6).new (o:=.lst (NV seg)) hz;have tz:(upd H6 z (.lst (NV seg))) z=some (.lst (NV seg)):=aa;generalize upd H6 z (.lst (NV seg))=H7 at s67 tz;nofun;refine⟨z,rfl,⟨_,PP tz⟩,aF (a:=z) (vs:=NV seg) (λi ys σ H'=>H'=H7/\i<=seg.length/\ys=NV ((seg.map λp=>(bS rss c).getD p 0).take i)/\∃v,σ=[v,some (PY a),some (PR c)]) (by rw[aw];exact am ⋯) (λi ys σ H' h=>by rw[h.2.2.1,aw,G5,GA];lia) (λi ys σ H' h=>by rw[h.1];exact PP tz) ⟨rfl,GR _,rfl,none,rfl⟩ ?_ ?_⟩
   ·rintro j ys σ H' x hx ⟨rfl,_,rfl,v,rfl⟩
    have hil:=aI hx;obtain⟨q,rfl,hq,hqm,hj⟩:=aA hx;have hqn:=hsm q hqm;have hqp:q<ps.length:=by lia
    have er:rss[q]? = some rss[q]:=by simp[hqn]
    obtain⟨g3,g4⟩:=pC hG er hcw;nofun;refine bB (PP (s67 _ _ (s6 _ _ ta))) (v:=PY ps[q]) (aU (by rw[GE];simp[hqp])) ?_;nofun;refine pY (PQ ((hR.same (s6.trans s67)).2 q ps[q] _ (by simp[hqp]) er)) (kI rfl g3) ?_;refine PX hil ⟨rfl,hj,?_,_,rfl⟩;rw[bJ,GS,GE,hq];show _=NV (_++[(bS rss c).getD q 0])
    rw[getD_some g4]
   rintro ys σ H' ⟨rfl,_,rfl,v,rfl⟩ y hy;rw[GJ (by rw[aw,GA];exact GF _)];have hrl:(seg.map λp=>(bS rss c).getD p 0).length=l - f:=by rw[GA];exact hsl
   have hrb:∀x∈seg.map λp=>(bS rss c).getD p 0,x<b:=λx hx=>by
    obtain⟨p,hp,rfl⟩:=GX.mp hx;have hp':p<(bS rss c).length:=by rw[j5];exact hsm p hp
    rw[GB,Gz hp'];exact nM hG hcw _ (GU hp')
   generalize (seg.map λp=>(bS rss c).getD p 0)=row at hrl hrb hstep;have s78:=(PV H').new (o:=.lst (NV row)) hy;have ty:(upd H' y (.lst (NV row))) y=some (.lst (NV row)):=aa;generalize upd H' y (.lst (NV row))=H8 at s78 ty;nofun;refine⟨y,row,b,rfl,⟨ty,trivial⟩,hrb,by lia,hb,λcc H9 hcc s9 tcc=>?_⟩;nofun;refine⟨cc,cnt row b,rfl,.inl tcc,by rw[bt];exact hb,λHA sA=>?_⟩;have s6A:=s67.trans (s78.trans (s9.trans sA));have toA:=s6A _ _ to6;have tsA:=s6A _ _ ts6;have twA:=s6A _ _ tw6;have TA:=T6.same s6A;have TZA:=TZ6.same s6A;have tyA:=sA _ _ (s9 _ _ ty);have tccA:=sA _ _ tcc;have tzA:=(s78.trans (s9.trans sA)) _ _ tz;have s0A:=s6.trans s6A;have hcco:cc≠o:=λz=>by rw[z]at hcc;rw[(s67.trans s78) _ _ to6]at hcc;cases hcc
   have hccs:cc≠st:=λz=>by rw[z]at hcc;rw[(s67.trans s78) _ _ ts6]at hcc;cases hcc
   have hcsum:(cnt row b).sum=l - f:=by rw[zM hrb];exact hrl
   have hpar:=nz vs f (c+1) (cnt row b);have hpp0:0<(nj (cnt row b)).length:=by
    rcases J8 (nj (cnt row b)).length with g|g
    ·have:=lJ (cnt row b)
     have h0:((cnt row b).map λc=>c - 1).sum=0:=by
      have:∀c∈cnt row b,c - 1=0:=λc hc=>by
       have hn0:c∉nj (cnt row b):=λz=>by rw[Ib.mp g]at z;cases z
       unfold nj at hn0;rw[JT]at hn0;have:¬ 0<c:=λz=>hn0 ⟨hc,decide_eq_true z⟩
       lia
      rw[jK 0 _ this];lia
     lia
    ·exact g
   nofun;apply FC (α:=List Nat) (S:=λob HD=>ByF row ob/\Same H HD/\HD o=some (.lst (NV (os.take f++cmp seg ob++os.drop l)))/\(∃zs':List Addr,HD st=some (.lst (zs'.map PY))/\zs'.length+gS (vs++(bq f (cnt row b) (c+1)).reverse)<=60/\∃sts',TrAt HD zs' sts')/\HD wl=some (.lst (rs.map PY))/\TrAt HD rs vs/\HD cc=some (.lst (NV (cnt row b))));case hA=>
    intro key;by_cases hp:dH (cnt row b)=true
    ·rw[if_pos hp]
     nofun;refine⟨y,row,b,rfl,tyA,hrb,by lia,hb,λd ob HB hd0 sB td hB=>?_⟩;have hO:=hB.ord;rw[hrl]at hO;have tzB:=sB _ _ tzA;nofun;refine⟨d,rfl,⟨_,PP td⟩,aF (a:=d) (vs:=NV ob) (λi ys σ H'=>H'=HB/\i<=ob.length/\ys=NV ((cmp seg ob).take i)/\∃v,σ=[v,some (PY z)]) (by rw[aw,hO.len];exact am ⋯) (λi ys σ H' h=>by rw[h.2.2.1,aw,G5,ip];lia) (λi ys σ H' h=>by rw[h.1];exact PP td) ⟨rfl,GR _,rfl,none,rfl⟩ ?_ ?_⟩
     ·rintro j ys σ H9' x hx ⟨rfl,_,rfl,v,rfl⟩
      have hil:=aI hx;obtain⟨q,rfl,hq,hqm,hj⟩:=aA hx;have hqn:=hO.lt q hqm;have hqo:q<seg.length:=by lia
      nofun;refine bB (PP tzB) (kI rfl (o:=seg[q]) (by simp[hqo])) ?_;refine PX hil ⟨rfl,hj,?_,_,rfl⟩;rw[bJ,GS,oW hq (r:=seg[q]) (by simp[hqo])];rfl
     rintro ys σ HB' ⟨eB,_,rfl,v,rfl⟩ e he;subst eB;rw[GJ (by rw[aw,ip];exact GF _)];have hcl:(cmp seg ob).length=l - f:=by rw[ip,hO.len]
     have sC:=(PV HB').new (o:=.lst (NV (cmp seg ob))) he;have te:(upd HB' e (.lst (NV (cmp seg ob)))) e=some (.lst (NV (cmp seg ob))):=aa;have hoe:o≠e:=ae (sB _ _ toA) he;generalize upd HB' e (.lst (NV (cmp seg ob)))=HC at sC te;have sAC:=sB.trans sC;nofun;refine⟨o,e,_,_,_,_,rfl,rfl,rfl,rfl,sAC _ _ toA,te,hoe,by lia,by lia,by rw[aw];lia,az (by rw[aw,aw];lia),?_⟩;have espl:(NV os).take ((f:Nat):Int).toNat++NV (cmp seg ob)++(NV os).drop ((l:Nat):Int).toNat=NV (os.take f++cmp seg ob++os.drop l):=by
      rw[HQ,HQ];unfold NV;rw[GM,GM,Kr,Lp]
     rw[espl];have sD:=(s0A.trans sAC).own (o:=.lst (NV (os.take f++cmp seg ob++os.drop l))) ho;have toD:(upd HC o (.lst (NV (os.take f++cmp seg ob++os.drop l)))) o=some (.lst (NV (os.take f++cmp seg ob++os.drop l))):=aa;have tsD:(upd HC o (.lst (NV (os.take f++cmp seg ob++os.drop l)))) st=some (.lst (zs.map PY)):=by rw[ai (Hx h0s)];exact sAC _ _ tsA
     have TZD:TrAt (upd HC o (.lst (NV (os.take f++cmp seg ob++os.drop l)))) zs sts:=(TZA.same sAC).own (sAC _ _ toA);have twD:(upd HC o (.lst (NV (os.take f++cmp seg ob++os.drop l)))) wl=some (.lst (rs.map PY)):=by rw[ai (Hx how)];exact sAC _ _ twA
     have TD:TrAt (upd HC o (.lst (NV (os.take f++cmp seg ob++os.drop l)))) rs vs:=(TA.same sAC).own (sAC _ _ toA);have tcD:(upd HC o (.lst (NV (os.take f++cmp seg ob++os.drop l)))) cc=some (.lst (NV (cnt row b))):=by rw[ai hcco];exact sAC _ _ tccA
     generalize upd HC o (.lst (NV (os.take f++cmp seg ob++os.drop l)))=HD at sD toD tsD twD TD tcD TZD;nofun;refine⟨aX tsD,?_⟩;nofun;refine⟨az (by simp),λtq2 htq2=>?_⟩;have sE:=(PV HD).new (o:=.tup [PR (f:Nat),PR (l:Nat),PR (c:Nat)]) htq2;have ttq2:(upd HD tq2 (.tup [PR (f:Nat),PR (l:Nat),PR (c:Nat)])) tq2=some (.tup [PR (f:Nat),PR (l:Nat),PR (c:Nat)]):=aa;generalize upd HD tq2 (.tup [PR (f:Nat),PR (l:Nat),PR (c:Nat)])=HE at sE ttq2;nofun;refine aL (sE _ _ tsD) (am (by rw[GA];lia)) ?_;rw[show zs.map PY++[PY tq2]=(zs++[tq2]).map PY by rw[GM];rfl];have hpp:1<(nj (cnt row b)).length:=by unfold dH at hp;exact of_decide_eq_true hp
     have q1:=(sD.trans sE).own (o:=.lst ((zs++[tq2]).map PY)) hstn;have q2:(upd HE st (.lst ((zs++[tq2]).map PY))) o=some (.lst (NV (os.take f++cmp seg ob++os.drop l))):=by rw[ai h0s];exact sE _ _ toD
     have q3:(upd HE st (.lst ((zs++[tq2]).map PY))) st=some (.lst ((zs++[tq2]).map PY)):=aa;have q4:(upd HE st (.lst ((zs++[tq2]).map PY))) wl=some (.lst (rs.map PY)):=by rw[ai (Hx hsw)];exact sE _ _ twD
     have q5:TrAt (upd HE st (.lst ((zs++[tq2]).map PY))) rs vs:=(TD.same sE).own (sE _ _ tsD);have q6:(upd HE st (.lst ((zs++[tq2]).map PY))) cc=some (.lst (NV (cnt row b))):=by rw[ai hccs];exact sE _ _ tcD
     have q7:TrAt (upd HE st (.lst ((zs++[tq2]).map PY))) (zs++[tq2]) (sts++[(f,l,c)]):=((TZD.same sE).snoc (s:=(f,l,c)) ttq2).own (sE _ _ tsD);generalize upd HE st (.lst ((zs++[tq2]).map PY))=HF at q1 q2 q3 q4 q5 q6 q7;nofun;exact key ob HF ⟨hB,q1,q2,⟨_,q3,by rw[GZ,HX];lia,_,q7⟩,q4,q5,q6⟩
    ·rw[if_neg hp]
     obtain⟨ob,hob,hcb⟩:∃ob,ByF row ob/\cmp seg ob=seg:=⟨_,t9 λx hx y hy=>la hrb hp hx hy,ua seg (by rw[hrl];exact hsl)⟩
     nofun;exact key ob HA ⟨hob,s0A,by rw[hcb,hback];exact toA,⟨zs,tsA,by lia,sts,TZA⟩,twA,TA,tccA⟩
   case hB=>
    rintro ob HD ⟨hob,sD,toD,⟨zs',tsD,phD,sts',TZD⟩,twD,TD,tcD⟩;refine⟨aX twD,?_⟩;have ec1:(c:Int)+1=((c+1:Nat):Int):=by lia
    nofun;rw[ec1];refine⟨f,c+1,cc,cnt row b,rfl,tcD,by rw[bt];exact hb,λpl us HE hpl0 sE tpl TE=>?_⟩;nofun;refine⟨pl,_,rfl,PP tpl,λrv hrv=>?_⟩;have erv:(us.map PY).reverse=us.reverse.map PY:=(LK ..).symm;rw[erv];have sF:=sE.new (o:=.lst (us.reverse.map PY)) hrv;have TF:=TE.same ((PV HE).new (o:=.lst (us.reverse.map PY)) hrv);have trv:(upd HE rv (.lst (us.reverse.map PY))) rv=some (.lst (us.reverse.map PY)):=aa;generalize upd HE rv (.lst (us.reverse.map PY))=HF at sF TF trv;have hlow:=L5.step (cs:=cnt row b) (bt row b);have hlen:=hlow.len (C:=C) (hstep ob hob).ok';have hul:us.length=b:=by rw[TF.1,ll,bt]
    have hrsl:rs.length+us.length<=12801:=by
     have e1:(vs++(bq f (cnt row b) (c+1)).reverse).length=rs.length+us.length:=by rw[GZ,IN,<-TD.1,TF.1]
     have e2:b*C<=64*200:=Nat.mul_le_mul hb ⋯;lia
    nofun;refine ny (sF _ _ twD) trv (HK (HI (by rw[GA,GA,IN];exact hrsl) (by decide))) ?_;rw[<-GM];refine⟨_,rF vs hcC' (bt row b),_,rs++us.reverse,_,zs',rfl,(sD.trans sF).own hwn,?_,?_,aa,?_,hstep ob hob,hlow,phD,⟨sts',(TZD.same sF).own (sF _ _ twD)⟩,_,_,_,_,_,_,rfl⟩
    ·rw[ai how];exact sF _ _ toD
    ·rw[ai hsw];exact sF _ _ tsD
    ·exact((TD.same sF).app TF.rev).own (sF _ _ twD)
theorem Gm{G:Prop}{S B:Hp->Prop}(hA:(∀H,S H->B H)->G)(hB:∀H,S H->B H):G:=hA hB
theorem Gn{G:Prop}{S1 B1 S2 B2:Hp->Prop}(hA:(∀H,S1 H->B1 H)->(∀H,S2 H->B2 H)->G)(h1:∀H,S1 H->B1 H)(h2:∀H,S2 H->B2 H):G:=hA h1 h2
def vo:Sp:=λvs H Q _=>∃(a c:Addr) (ps qs:List Addr) (r1 r2:List (List Nat)),vs=[.ref a,.ref c]/\H a=some (.lst (ps.map PY))/\H c=some (.lst (qs.map PY))/\RowsT H ps r1/\RowsT H qs r2/\ps.length+qs.length<=60/\
 ∀(l:Addr) (us:List Addr) (ws:List (Nat×Nat)) H',H l=none->Same H H'->H' l=some (.lst (us.map PY))->PrAt H' us ws->ws.length=ps.length+qs.length->Mgd r1 r2 r1.length r2.length ws->Q (.ref l) H'
theorem _root_.L2.Mgd.le{r1 r2:List (List Nat)}{ws:List (Nat×Nat)}(h:Mgd r1 r2 i j ws):i<=r1.length/\j<=r2.length/\∀w∈ws,(w.1=0/\w.2<r1.length)\/(w.1=1/\w.2<r2.length):=by
 induction h with
 | nil=>exact⟨GR _,GR _,λw h=>nomatch h⟩
 | one h hi c ih=>exact⟨hi,ih.2.1,λw hw=>(G9.mp hw).elim (ih.2.2 w) λg=>by rw[G1.mp g];exact .inl ⟨rfl,hi⟩⟩
 | two h hj c ih=>exact⟨ih.1,hj,λw hw=>(G9.mp hw).elim (ih.2.2 w) λg=>by rw[G1.mp g];exact .inr ⟨rfl,hj⟩⟩
theorem vp (T:Tx K mg t):FnOk P t.wd K mg t.bs CX0 1 t.mO t.mI ["one","other"] vo:=by
 refine T.qM.okQ sc_merged (λvs H Q E h=>?_) (λcdv A outer s H vs Q E hr h=>?_)
 ·obtain⟨a,c,ps,qs,r1,r2,rfl,_⟩:=h
  rfl
 ·obtain⟨a,c,ps,qs,r1,r2,rfl,ta,tc,hR1,hR2,hn,k⟩:=h
  have hl1:ps.length=r1.length:=hR1.1;have hl2:qs.length=r2.length:=hR2.1;refine⟨_,(ad (ar (i:=2) sc_merged.nd rfl (GI rfl) (ba ac))
   (ad (dY (aT (ag af (ag af ac))) (bp (K:=K) (n:=2) rfl (aq (ah (i:=3) sc_merged.nd rfl (GI rfl)) (aq (ah (i:=4) sc_merged.nd rfl (GI rfl)) aQ))))
   (ad (dX Ha (QW.qt (lB (aD yr (qv 3) (ap (aW (K:=K)) (by rfl) T.bv aR (ag (qv 0) ac)) (aK _)) (iT (aD yr (qv 4) (ap (aW (K:=K)) (by rfl) T.bv aR (ag (qv 1) ac)) (aK _))))) (aj (bR (QW.qt (lB (aD v0 (qv 4) (ap (aW (K:=K)) (by rfl) T.bv aR (ag (qv 1) ac)) (aK _)) (iT (QW.qt (yq (aD yr (qv 3) (ap (aW (K:=K)) (by rfl) T.bv aR (ag (qv 0) ac)) (aK _)) (tJ (aD (Cc (K:=K) hr.units0) (aP (bL (K:=K)) (by rfl) T.bA bu (ag (aJ (bg (K:=K)) (qv 0) (qv 3)) ac)) (aP (bL (K:=K)) (by rfl) T.bA bu (ag (aJ (bg (K:=K)) (qv 1) (qv 4)) ac)) (aK _)))))))) (ad (bx (be (K:=K) (qv 2) (ag (aT (ag af (ag (qv 3) ac))) ac)))
   (aj (iU (i:=3) sc_merged.nd rfl (GI rfl) af kZ))) (ad (bx (be (K:=K) (qv 2) (ag (aT (ag af (ag (qv 4) ac))) ac)))
   (aj (iU (i:=4) sc_merged.nd rfl (GI rfl) af kZ))))))
   (aj (au (qv 2)))))),?_⟩
  rw[show L2.start ["one","other","both","at","beside"] [PY a,PY c]=[some (PY a),some (PY c),none,none,none]from rfl];nofun;refine⟨az (by simp),λl hbn=>?_⟩;have s1:=(PV H).new (o:=.lst []) hbn;have tl:(upd H l (.lst [])) l=some (.lst (([]:List Addr).map PY)):=aa;generalize upd H l (.lst [])=H1 at s1 tl;nofun;refine⟨az (by simp),λz0 hz0=>?_⟩;have s1:=s1.new (o:=.tup [PR 0,PR 0]) hz0;have tl:(upd H1 z0 (.tup [PR 0,PR 0])) l=some (.lst (([]:List Addr).map PY)):=by rw[ai (ae tl hz0)];exact tl
  have tz0:(upd H1 z0 (.tup [PR 0,PR 0])) z0=some (.tup [PR 0,PR 0]):=aa;generalize upd H1 z0 (.tup [PR 0,PR 0])=H1 at s1 tl tz0;refine aV tz0 ?_;dsimp only[HV];nofun;refine⟨λm σ H'=>∃(us:List Addr) (ws:List (Nat×Nat)) (i j:Nat),m=(ps.length - i)+(qs.length - j)/\Same H H'/\H' l=some (.lst (us.map PY))/\PrAt H' us ws/\ws.length=i+j/\Mgd r1 r2 i j ws/\σ=[some (PY a),some (PY c),some (PY l),some (PR (i:Nat)),some (PR (j:Nat))],⟨_,[],[],0,0,rfl,s1,tl,PrAt.nil,rfl,Mgd.nil,rfl⟩,?_⟩;rintro m σ H3 ⟨us,ws,i,j,rfl,s3,tb3,hU,hwl,hM,rfl⟩;have hil:=hM.le.1;have hjl:=hM.le.2.1;have eI:∀z:Nat,(z:Int)+1=((z+1:Nat):Int):=λz=>by lia
  nofun;apply Gm (S:=λHD=>HD=H3/\(i<ps.length\/j<qs.length));case hA=>
   intro key;refine aH (PP (s3 _ _ ta)) ?_;rw[GA];nofun;refine aS (λg1=>?_) (λg1=>?_)
   ·skip
    nofun;refine⟨_,λ_ _ z=>z,?_⟩;generalize h9:H3=H9;exact key H9 ⟨h9.symm,.inl ⋯⟩
   nofun;refine aH (PP (s3 _ _ tc)) ?_;rw[GA];nofun;refine aS (λg1'=>?_) (λg1'=>?_)
   ·skip
    nofun;refine⟨_,λ_ _ z=>z,?_⟩;generalize h9:H3=H9;exact key H9 ⟨h9.symm,.inr ⋯⟩
   nofun;have ei:i=r1.length:=by lia
   have ej:j=r2.length:=by lia
   rw[ei,ej]at hM;exact k l us ws H3 hbn s3 tb3 hU ⋯ hM
  case hB=>
   rintro HD ⟨rfl,hor⟩;nofun;apply Gn (S1:=λHE=>HE=HD/\i<r1.length/\(j=r2.length\/lxt (r2.getD j []) (r1.getD i [])=false)) (S2:=λHE=>HE=HD/\j<r2.length/\(i=r1.length\/lxt (r2.getD j []) (r1.getD i [])=true));case hA=>
    intro key1 key2;refine aH (PP (s3 _ _ tc)) ?_;rw[GA];nofun;refine aS (λg2=>?_) (λg2=>?_)
    ·have e2:j=qs.length:=Oh (PR.inj g2)
     nofun;generalize h9:HD=H9;exact key1 H9 ⟨h9.symm,by lia,.inl ⋯⟩
    nofun;refine aH (PP (s3 _ _ ta)) ?_;rw[GA];nofun;have g2':j<qs.length:=by have:j≠qs.length:=λz=>g2 (by rw[z]);lia
    refine aS (λg3=>?_) (λg3=>?_)
    ·have hip:i<ps.length:=by lia
     have ei:r1[i]? = some (r1[i]'(by rw[<-hR1.1];exact hip)):=Gz _;have ej:r2[j]? = some (r2[j]'(by rw[<-hR2.1];exact g2')):=Gz _;have t1:=s3 _ _ (hR1.2 i ps[i] _ (by simp[hip]) ei);have t2:=s3 _ _ (hR2.2 j qs[j] _ (by simp[g2']) ej);nofun;refine bB (PP (s3 _ _ ta)) (v:=PY ps[i]) (aU (by rw[GE];simp[hip])) ?_;nofun;refine⟨ps[i],_,rfl,.inr ⟨PQ t1,?_⟩⟩;nofun;refine bB (PP (s3 _ _ tc)) (v:=PY qs[j]) (aU (by rw[GE];simp[g2'])) ?_;nofun;refine⟨qs[j],_,rfl,.inr ⟨PQ t2,?_⟩⟩;refine yz (ns:=bE _) (ms:=bE _) (PQ (by rw[<-bM];exact t1)) (PQ (by rw[<-bM];exact t2)) ?_;have ev:HT.eZ (bE (r1[i]'(by rw[<-hR1.1];exact hip))) (bE (r2[j]'(by rw[<-hR2.1];exact g2')))=!lxt (r2.getD j []) (r1.getD i []):=by
      rw[HT.nr,jr ei,jr ej];rfl
     rw[ev];nofun;cases hle:lxt (r2.getD j []) (r1.getD i [])with
     | false=>
      nofun;generalize h9:HD=H9;exact key1 H9 ⟨h9.symm,by lia,.inr hle⟩
     | true=>
      nofun;generalize h9:HD=H9;exact key2 H9 ⟨h9.symm,by lia,.inr hle⟩
    ·skip
     nofun;generalize h9:HD=H9;exact key2 H9 ⟨h9.symm,by lia,.inl ⋯⟩
   case h1=>
    rintro HE ⟨rfl,hi,hc⟩;refine⟨aX tb3,?_⟩;nofun;refine⟨az (by simp),λu hu=>?_⟩;have s4:=(PV HE).new (o:=.tup [PR 0,PR (i:Nat)]) hu;have tu:(upd HE u (.tup [PR 0,PR (i:Nat)])) u=some (.tup [PR ((0:Nat):Int),PR (i:Nat)]):=aa;generalize upd HE u (.tup [PR 0,PR (i:Nat)])=H4 at s4 tu;nofun;refine aL (s4 _ _ tb3) (by rw[GA,hU.1];exact am ⋯) ?_;nofun;exact⟨(ps.length - (i+1))+(qs.length - j),by lia,us++[u],ws++[(0,i)],i+1,j,rfl,(s3.trans s4).own hbn,by rw[aa,GM];rfl,((hU.same s4).snoc tu).own (s4 _ _ tb3),by rw[GZ,HX];lia,hM.one hi hc,by rw[<-eI];rfl⟩
   case h2=>
    rintro HE ⟨rfl,hj,hc⟩;refine⟨aX tb3,?_⟩;nofun;refine⟨az (by simp),λu hu=>?_⟩;have s4:=(PV HE).new (o:=.tup [PR 1,PR (j:Nat)]) hu;have tu:(upd HE u (.tup [PR 1,PR (j:Nat)])) u=some (.tup [PR ((1:Nat):Int),PR (j:Nat)]):=aa;generalize upd HE u (.tup [PR 1,PR (j:Nat)])=H4 at s4 tu;nofun;refine aL (s4 _ _ tb3) (by rw[GA,hU.1];exact am ⋯) ?_;nofun;exact⟨(ps.length - i)+(qs.length - (j+1)),by lia,us++[u],ws++[(1,j)],i,j+1,rfl,(s3.trans s4).own hbn,by rw[aa,GM];rfl,((hU.same s4).snoc tu).own (s4 _ _ tb3),by rw[GZ,HX];lia,hM.two hj hc,by rw[<-eI];rfl⟩
def EX:Sp:=λvs H Q _=>∃(r a c:Addr) (ps:List Addr) (rss:List (List Nat)) (xs ys:List Nat) (f m e:Nat),vs=[.ref r,.ref a,.ref c]/\H r=some (.lst (ps.map PY))/\RowsT H ps rss/\H a=some (.lst (NV xs))/\H c=some (.lst (NV ys))/\Seg rss f m xs/\Seg rss m e ys/\f<=m/\m<=e/\e<=rss.length/\rss.length<=60/\
 ∀(l:Addr) (zs:List Nat) H',H l=none->Same H H'->H' l=some (.lst (NV zs))->Seg rss f e zs->Q (.ref l) H'
theorem jb (T:Tx K mg t):FnOk P t.wd K mg t.bs CX0 2 t.db t.c6 ["rows","one","other"] EX:=by
 refine T.fy.okQ sc_merged_places (λvs H Q E h=>?_) (λcdv A outer s H vs Q E hr h=>?_)
 ·obtain⟨r,a,c,ps,rss,xs,ys,f,m,e,rfl,_⟩:=h
  rfl
 ·obtain⟨r,a,c,ps,rss,xs,ys,f,m,e,rfl,tr,hR,ta,tc,hsx,hsy,hfm,hme,hel,hrn,k⟩:=h
  have hpl:ps.length=rss.length:=hR.1;have hx:∀x∈xs,x<rss.length:=λx hx=>by have:=hsx.mem hx;lia
  have hy:∀x∈ys,x<rss.length:=λx hx=>by have:=hsy.mem hx;lia
  have hn:xs.length+ys.length<=60:=by have:=hsx.len;have:=hsy.len;lia
  ·refine⟨_,(ad (ar (i:=3) sc_merged_places.nd rfl (GI rfl) (ak (vp T) (hr.mono (by decide)) rfl T.x9 T.qM.kp T.xX ay (ag (aN (N:=["place","rows"]) (tgs:=["place"]) (frs:=["rows"]) (ix:=[0]) ⟨rfl,by decide +kernel,rfl,by decide +kernel,rfl,rfl,⟨⟨rfl,rfl,_,rfl,rfl⟩,GL⟩,⟨rfl,GL⟩,rfl⟩ rfl (aE (K:=K) (qv 1)) (λ_ _ _ _=>(ah (i:=0) (by show G4 (["place","rows"]:List Str);decide +kernel) rfl (GI rfl))) (λ_ _ _ _=>(aJ (bg (K:=K)) (qv 1) (qv 0)))) (ag (aN (N:=["place","rows"]) (tgs:=["place"]) (frs:=["rows"]) (ix:=[0]) ⟨rfl,by decide +kernel,rfl,by decide +kernel,rfl,rfl,⟨⟨rfl,rfl,_,rfl,rfl⟩,GL⟩,⟨rfl,GL⟩,rfl⟩ rfl (aE (K:=K) (qv 2)) (λ_ _ _ _=>(ah (i:=0) (by show G4 (["place","rows"]:List Str);decide +kernel) rfl (GI rfl))) (λ_ _ _ _=>(aJ (bg (K:=K)) (qv 1) (qv 0)))) ac))))
   (ad (ar (i:=4) sc_merged_places.nd rfl (Iu rfl) (aT (ag (qv 1) (ag (qv 2) ac))))
   (aj (au (aN (N:=["which","at","places"]) (tgs:=["which","at"]) (frs:=["places"]) (ix:=[4]) ⟨rfl,by decide +kernel,rfl,by decide +kernel,rfl,rfl,⟨⟨rfl,rfl,_,rfl,rfl⟩,GL⟩,⟨rfl,GL⟩,rfl⟩ rfl (aE (K:=K) (qv 3)) (λ_ _ _ _=>(bp (K:=K) (n:=2) rfl (aq (ah (i:=0) (by show G4 (["which","at","places"]:List Str);decide +kernel) rfl (GI rfl)) (aq (ah (i:=1) (by show G4 (["which","at","places"]:List Str);decide +kernel) rfl (GI rfl)) aQ)))) (λ_ _ _ _=>(aJ (bg (K:=K)) (aJ (gK (K:=K)) (qv 2) (qv 0)) (qv 1)))))))),?_⟩
   rw[show L2.start ["rows","one","other","pairs","places"] [PY r,PY a,PY c]=[some (PY r),some (PY a),some (PY c),none,none]from rfl];nofun;refine⟨a,rfl,⟨_,PP ta⟩,aF (a:=a) (vs:=NV xs) (λi zs σ H'=>H'=H/\i<=xs.length/\(∃us:List Addr,zs=us.map PY/\us.length=i/\RowsT H us ((xs.take i).map λx=>rss.getD x []))/\∃v,σ=[v,some (PY r)]) (by rw[aw];exact am ⋯) (λi zs σ H' h=>by obtain⟨_,_,⟨us,rfl,e,_⟩,_⟩:=h;rw[GA,e]) (λi zs σ H' h=>by rw[h.1];exact PP ta) ⟨rfl,GR _,⟨[],rfl,rfl,rfl,λi p z h=>by simp at h⟩,none,rfl⟩ ?_ ?_⟩
   ·rintro i zs σ H' x hx' ⟨rfl,_,⟨us,rfl,hul,hU⟩,v,rfl⟩
    have hil:=aI hx';obtain⟨q,rfl,hq,hqm,hi⟩:=aA hx';have hqn:=hx q hqm;have hqp:q<ps.length:=by lia
    have eq':rss[q]? = some rss[q]:=by simp[hqn]
    have eg:rss.getD q []=rss[q]:=by rw[GB,eq'];rfl
    nofun;refine bB (PP tr) (v:=PY ps[q]) (aU (by rw[GE];simp[hqp])) ?_;refine PX hil ⟨rfl,hi,⟨us++[ps[q]],by rw[GM];rfl,by simp[hul],?_⟩,_,rfl⟩;rw[GS,hq,GM];show RowsT _ _ (_++[rss.getD q []])
    rw[eg];exact hU.snoc (hR.2 q ps[q] _ (by simp[hqp]) eq')
   rintro zs σ H1 ⟨e1,_,⟨us,rfl,hul,hU⟩,v,rfl⟩ l1 hl1;subst e1;rw[aw]at hul hU;rw[GJ (GF _)]at hU;have s2:=(PV H1).new (o:=.lst (us.map PY)) hl1;have tl1:(upd H1 l1 (.lst (us.map PY))) l1=some (.lst (us.map PY)):=aa;generalize upd H1 l1 (.lst (us.map PY))=H2 at s2 tl1;have tc2:=s2 _ _ tc;nofun;refine⟨c,rfl,⟨_,PP tc2⟩,aF (a:=c) (vs:=NV ys) (λi zs σ H'=>H'=H2/\i<=ys.length/\(∃vs:List Addr,zs=vs.map PY/\vs.length=i/\RowsT H2 vs ((ys.take i).map λx=>rss.getD x []))/\∃v,σ=[v,some (PY r)]) (by rw[aw];exact am ⋯) (λi zs σ H' h=>by obtain⟨_,_,⟨us,rfl,e,_⟩,_⟩:=h;rw[GA,e]) (λi zs σ H' h=>by rw[h.1];exact PP tc2) ⟨rfl,GR _,⟨[],rfl,rfl,rfl,λi p z h=>by simp at h⟩,none,rfl⟩ ?_ ?_⟩
   ·rintro i zs σ H' x hx' ⟨rfl,_,⟨vs,rfl,hvl,hV⟩,v,rfl⟩
    have hil:=aI hx';obtain⟨q,rfl,hq,hqm,hi⟩:=aA hx';have hqn:=hy q hqm;have hqp:q<ps.length:=by lia
    have eq':rss[q]? = some rss[q]:=by simp[hqn]
    have eg:rss.getD q []=rss[q]:=by rw[GB,eq'];rfl
    nofun;refine bB (PP (s2 _ _ tr)) (v:=PY ps[q]) (aU (by rw[GE];simp[hqp])) ?_;refine PX hil ⟨rfl,hi,⟨vs++[ps[q]],by rw[GM];rfl,by simp[hvl],?_⟩,_,rfl⟩;rw[GS,hq,GM];show RowsT _ _ (_++[rss.getD q []])
    rw[eg];exact hV.snoc ((hR.same s2).2 q ps[q] _ (by simp[hqp]) eq')
   rintro zs σ H3 ⟨e3,_,⟨vs,rfl,hvl,hV⟩,v,rfl⟩ l2 hl2;subst e3;rw[aw]at hvl hV;rw[GJ (GF _)]at hV;have s34:=(PV H3).new (o:=.lst (vs.map PY)) hl2;have tl2:(upd H3 l2 (.lst (vs.map PY))) l2=some (.lst (vs.map PY)):=aa;generalize upd H3 l2 (.lst (vs.map PY))=H4 at s34 tl2;have s4:=s2.trans s34;nofun;refine⟨l1,l2,us,vs,_,_,rfl,s34 _ _ tl1,tl2,hU.same s4,hV.same s34,by lia,λpl qs ws H5 hpl0 s5 tpl hP hwl hM=>?_⟩;rw[GA,GA]at hM;have hok:=hM.le.2.2;have hul':us.length=xs.length:=hul;have hvl':vs.length=ys.length:=hvl;have s05:=s4.trans s5;nofun;refine⟨az (by simp),λtt htt=>?_⟩;have s56:=(PV H5).new (o:=.tup [PY a,PY c]) htt;have ttt:(upd H5 tt (.tup [PY a,PY c])) tt=some (.tup [PY a,PY c]):=aa;generalize upd H5 tt (.tup [PY a,PY c])=H6 at s56 ttt;have s06:=s05.trans s56;have tpl6:=s56 _ _ tpl;have P6:=hP.same s56;have hqw:qs.length=ws.length:=hP.1;nofun;refine⟨pl,rfl,⟨_,PP tpl6⟩,aF (a:=pl) (vs:=qs.map PY) (λi zs σ H'=>H'=H6/\(zs=NV ((ws.take i).map (jq xs ys))/\i<=ws.length)/\∃v w,σ=[v,w,some (PY tt)]) (by rw[GA];exact am ⋯) (λi zs σ H' h=>by rw[h.2.1.1,aw,GA,G5];have:=h.2.1.2;lia) (λi zs σ H' h=>by rw[h.1];exact PP tpl6) ⟨rfl,⟨rfl,GR _⟩,none,none,rfl⟩ ?_ ?_⟩
   ·rintro i zs σ H' x hx' ⟨rfl,⟨rfl,hnl⟩,v,w,rfl⟩
    have hil:=aI hx';obtain⟨q,rfl,hq,_,hi⟩:=aA hx';have hiw:i<ws.length:=by lia
    have tq:=P6.2 i q ws[i] hq (by simp[hiw]);have hw:=hok ws[i] (GU hiw);have etk:(ws.take (i+1)).map (jq xs ys)=(ws.take i).map (jq xs ys)++[jq xs ys ws[i]]:=by rw[GS,Gz hiw,GM];rfl
    generalize ws[i]=w9 at tq hw etk;obtain⟨w1,w2⟩:=w9;refine aV tq ?_;dsimp only[HV];rcases hw with⟨h1,h2⟩|⟨h1,h2⟩
    ·have h1:w1=0:=h1
     have h2:w2<xs.length:=by have:=h2;rw[GA]at this;exact this
     subst h1;have hw2:w2<xs.length:=by lia
     nofun;refine bB (PP (s06 _ _ ta)) (kI rfl (o:=xs[w2]) (by simp[hw2])) ?_;refine PX hil ⟨rfl,⟨?_,hiw⟩,_,_,rfl⟩;rw[etk,<-bJ];have ep:jq xs ys (0,w2)=xs[w2]:=by unfold jq;simp[hw2]
     rw[ep]
    ·have h1:w1=1:=h1
     have h2:w2<ys.length:=by have:=h2;rw[GA]at this;exact this
     subst h1;have hw2:w2<ys.length:=by lia
     nofun;refine bB (PP (s06 _ _ tc)) (kI rfl (o:=ys[w2]) (by simp[hw2])) ?_;refine PX hil ⟨rfl,⟨?_,hiw⟩,_,_,rfl⟩;rw[etk,<-bJ];have ep:jq xs ys (1,w2)=ys[w2]:=by unfold jq;simp[hw2]
     rw[ep]
   ·rintro zs σ H7 ⟨e7,⟨rfl,hnl⟩,v,w,rfl⟩ l hl
    subst e7;rw[GA,GJ ⋯];exact k l _ _ (s06.free hl) (s06.new hl) aa (Mgd.seg hsx hsy hfm hme hM)
def EY:Sp:=λvs H Q _=>∃(a:Addr) (rss:List (List Nat)) (w b:Nat),vs=[.ref a]/\Rws H a rss w b/\∀(t o st:Addr) (os:List Nat) (qs:List Addr) H',H t=none->H o=none->Same H H'->H' t=some (.tup [.ref o,.ref st])->H' o=some (.lst (NV os))->OrdR rss os->H' st=some (.lst (qs.map PY))->TrAt H' qs (fS (bo rss rss.length))->(fS (bo rss rss.length)).length<=60->Q (.ref t) H'
theorem rT (T:Tx K mg t):FnOk P t.wd K mg t.bs CX0 3 t.kx t.kn ["rows"] EY:=by
 refine T.n9.okQ sc_by_runs (λvs H Q E h=>?_) (λcdv A outer s H vs Q E hr h=>?_)
 ·obtain⟨a,rss,w,b,rfl,_⟩:=h
  rfl
 ·obtain⟨a,rss,w,b,rfl,⟨⟨ps,ta,hR⟩,hG,hn,hw,hb⟩,k⟩:=h
  have hpl:ps.length=rss.length:=hR.1
  ·refine⟨_,(ad (ar (i:=1) sc_by_runs.nd rfl (GI rfl) (lD rfl rfl T.fY rfl T.bn (ag (ap (aW (K:=K)) (by rfl) T.bv aR (ag (qv 0) ac)) ac)))
   (ad (ar (i:=2) sc_by_runs.nd rfl (GI rfl) (aJ (gK (K:=K)) (ak (eT T) (hr.mono (by decide)) rfl T.fM T.cX.kp T.fC ay (ag (ak (vc T) (hr.mono (by decide)) rfl T.yV T.vD.kp T.yR ay (ag (qv 0) ac)) ac)) af))
   (ad (bC Ha rfl (aE (K:=K) (qv 2)) (bp (K:=K) (n:=3) rfl (aq (ah (i:=3) sc_by_runs.nd rfl (GI rfl)) (aq (ah (i:=4) sc_by_runs.nd rfl (GI rfl)) (aq (ah (i:=5) sc_by_runs.nd rfl (GI rfl)) aQ)))) (aj (yA (ak (jb T) (hr.mono (by decide)) rfl T.kD T.fy.kp T.kg ay (ag (qv 0) (ag (cJ (oS (K:=K)) (qv 1) (bN (qv 3)) (bN (qv 4))) (ag (cJ (oS (K:=K)) (qv 1) (bN (qv 4)) (bN (qv 5))) ac)))) (qv 1) (qv 3) (qv 5))))
   (aj (au (aT (ag (qv 1) (ag (qv 2) ac)))))))),?_⟩
   rw[show L2.start ["rows","order","steps","first","middle","last"] [PY a]=[some (PY a),none,none,none,none,none]from rfl];nofun;refine aH (PP ta) ?_;rw[GA,hpl];nofun;refine⟨rss.length,rfl,by lia,λo ho=>?_⟩;rw[lE];have er:((GH rss.length).map λi=>0+i)=GH rss.length:=by simp
   rw[er];have s1:=(PV H).new (o:=.lst (NV (GH rss.length))) ho;have to1:(upd H o (.lst (NV (GH rss.length)))) o=some (.lst (NV (GH rss.length))):=aa;generalize upd H o (.lst (NV (GH rss.length)))=H1 at s1 to1;nofun;refine⟨a,ps,rss,rfl,s1 _ _ ta,hR.same s1,hn,λl H2 hl s2 tl=>?_⟩;have hrl:=jQ rss rss.length;have hrs:=gU rss rss.length;obtain⟨al,aok⟩:=lg _ (bo rss rss.length) (GF _);nofun;refine⟨l,bo rss rss.length,rfl,.inl tl,by lia,λt st qs H3 hst s3 tt ts T3=>?_⟩;have s13:=s2.trans s3;have to3:=s13 _ _ to1;have s03:=s1.trans s13;have hso:st≠o:=λe=>by rw[e,s2 _ _ to1]at hst;cases hst
   have hql:=T3.1;nofun;refine⟨st,rfl,⟨_,PP ts⟩,cI (a:=st) (xs:=qs.map PY) (λi σ H'=>Same H H'/\H' st=some (.lst (qs.map PY))/\TrAt H' qs (fS (bo rss rss.length))/\(∃os:List Nat,H' o=some (.lst (NV os))/\os.length=rss.length/\RnS rss rss.length ((fS (bo rss rss.length)).drop i) os)/\∃v3 v4 v5,σ=[some (PY a),some (PY o),some (PY st),v3,v4,v5]) ⟨s03,ts,T3,⟨_,to3,by simp,xu rss rss.length⟩,_,_,_,rfl⟩ (λi σ H' _ h=>PP h.2.1) ?_ ?_⟩
   ·rintro i x σ H4 hx ⟨s4,ts4,T4,⟨os,to4,hol,hrn⟩,v3,v4,v5,rfl⟩
    obtain⟨q,rfl,hq,_,hi⟩:=aA hx;have hia:i<(fS (bo rss rss.length)).length:=by lia
    have tq:=T4.2 i q _ hq (Gz hia);have hok:=aok _ (GU hia);rw[Lz hia]at hrn;generalize (fS (bo rss rss.length))[i]=s9 at tq hok hrn;obtain⟨f,m,e⟩:=s9;have tq:H4 q=some (.tup [.int (f:Nat),.int (m:Nat),.int (e:Nat)]):=tq;have hok:f<=m/\m<=e/\e<=(bo rss rss.length).sum:=hok;obtain⟨_,_,_,g1,g2,hnx⟩:=hrn;have g1:Seg rss f m ((os.drop f).take (m - f)):=g1;have g2:Seg rss m e ((os.drop m).take (e - m)):=g2;have hnx:∀x,Seg rss f e x->RnS rss rss.length ((fS (bo rss rss.length)).drop (i+1)) (os.take f++x++os.drop e):=hnx
    rw[hrs]at hok;refine gR tq ?_;dsimp only[HV];nofun;refine⟨_,rfl,?_⟩;nofun;refine⟨_,rfl,?_⟩;refine pw to4 λl1 H5 hl1 s5 tl1=>?_
    rw[ub os ⋯ ⋯]at tl1;nofun;refine⟨_,rfl,?_⟩;nofun;refine⟨_,rfl,?_⟩;refine pw (s5 _ _ to4) λl2 H6 hl2 s6 tl2=>?_
    rw[ub os ⋯ ⋯]at tl2;have c1:((os.drop f).take (m - f)).length=m - f:=by rw[G5,Ig];lia
    have c2:((os.drop m).take (e - m)).length=e - m:=by rw[G5,Ig];lia
    have s46:=s5.trans s6;nofun;refine⟨a,l1,l2,ps,rss,_,_,f,m,e,rfl,s46 _ _ (s4 _ _ ta),(hR.same s4).same s46,s6 _ _ tl1,tl2,g1,g2,hok.1,hok.2.1,hok.2.2,hn,λz zs H7 hz s7 tz hzs=>?_⟩;have hzl:=hzs.len;have s47:=s46.trans s7;have to7:=s47 _ _ to4;have hzo:o≠z:=λe=>by rw[<-e,s46 _ _ to4]at hz;cases hz
    nofun;refine⟨o,z,_,_,_,_,rfl,rfl,rfl,rfl,to7,tz,hzo,by lia,by lia,by rw[aw];lia,az (by rw[aw,aw];lia),?_⟩;have espl:(NV os).take ((f:Nat):Int).toNat++NV zs++(NV os).drop ((e:Nat):Int).toNat=NV (os.take f++zs++os.drop e):=by
     rw[HQ,HQ];unfold NV;rw[GM,GM,Kr,Lp]
    rw[espl];exact⟨(s4.trans s47).own ho,by rw[ai hso];exact s47 _ _ ts4,(T4.same s47).own to7,⟨_,aa,by rw[GZ,GZ,G5,Ig];lia,hnx zs hzs⟩,_,_,_,rfl⟩
   ·rintro σ H4 ⟨s4,ts4,T4,⟨os,to4,hol,hrn⟩,v3,v4,v5,rfl⟩
    nofun;refine⟨az (by simp),λt2 ht2=>?_⟩;rw[GA,List.drop_eq_nil_of_le ⋯]at hrn;exact k t2 o st os qs _ (s4.free ht2) ho (s4.new ht2) aa (by rw[ai (ae to4 ht2)];exact to4) ⟨by have:=hrn.perm;rwa [LP,<-MU]at this,hrn.sort⟩ (by rw[ai (ae ts4 ht2)];exact ts4) (T4.same ((PV H4).new ht2)) ⋯
def hX:Sp:=λvs H Q _=>∃(a:Addr) (rss:List (List Nat)) (w b:Nat),vs=[.ref a,.int b]/\Rws H a rss w b/\
 ∀(t o:Addr) (os:List Nat) (m:Int) H',H t=none->H o=none->Same H H'->H' t=some (.tup [.ref o,.int m])->H' o=some (.lst (NV os))->OrdR rss os->Q (.ref t) H'
theorem nW (T:Tx K mg t):FnOk P t.wd K mg t.bs CX0 4 t.ci t.gs ["rows","base"] hX:=by
 refine T.kb.okQ sc_last_done (λvs H Q E h=>?_) (λcdv A outer s H vs Q E hr h=>?_)
 ·obtain⟨a,rss,w,b,rfl,_⟩:=h
  rfl
 ·obtain⟨a,rss,w,b,rfl,hW,k⟩:=h
  refine⟨_,(ad (dY (ak (nV T) (hr.mono (by decide)) rfl T.pR T.ka.kp T.pI ay (ag (qv 0) (ag (qv 1) ac))) (bp (K:=K) (n:=2) rfl (aq (ah (i:=2) sc_last_done.nd rfl (GI rfl)) (aq (ah (i:=3) sc_last_done.nd rfl (GI rfl)) aQ))))
   (aj (au (aT (ag (qv 2) (ag (ap (jD (K:=K) rfl) (by rfl) T.kP j2 (ag (aN (N:=["column","behind"]) (tgs:=["column","behind"]) (frs:=[]) (ix:=[]) ⟨rfl,by decide +kernel,rfl,by decide +kernel,rfl,rfl,GL,GL,rfl⟩ rfl (aE (K:=K) (qv 3)) (λ_ _ _ _=>(bp (K:=K) (n:=2) rfl (aq (ah (i:=0) (by show G4 (["column","behind"]:List Str);decide +kernel) rfl (GI rfl)) (aq (ah (i:=1) (by show G4 (["column","behind"]:List Str);decide +kernel) rfl (GI rfl)) aQ)))) (λ_ _ _ _=>(ap (aW (K:=K)) (by rfl) T.bv aR (ag (qv 1) ac)))) ac)) ac)))))),?_⟩
  rw[show L2.start ["rows","base","order","steps"] [PY a,PR b]=[some (PY a),some (PR b),none,none]from rfl];nofun;refine⟨a,rss,w,b,rfl,hW,λt o st qs os H1 tt to hO ts hS hq _ hon s1=>?_⟩;refine aV tt ?_;dsimp only[HV];nofun;refine⟨st,rfl,⟨_,PP ts⟩,aF (a:=st) (vs:=qs.map PY) (λi ys σ H'=>H'=H1/\(∃ns:List Int,ys=ns.map PR/\ns.length=i)/\∃v w,σ=[v,w]) (by rw[GA];exact am ⋯) (λi ys σ H' h=>by obtain⟨_,⟨ns,rfl,e⟩,_⟩:=h;rw[GA,e]) (λi ys σ H' h=>by rw[h.1];exact PP ts) ⟨rfl,⟨[],rfl,rfl⟩,none,none,rfl⟩ ?_ ?_⟩
  ·rintro i ys σ H' x hx ⟨rfl,⟨ns,rfl,hnl⟩,v,w,rfl⟩
   have hil:=aI hx;obtain⟨q,rfl,_,hq,_⟩:=aA hx;obtain⟨c,l,ms,tq,tl,_⟩:=hS q hq;refine aV tq ?_;dsimp only[HV];nofun;refine aH (PP tl) ?_;exact PX hil ⟨rfl,⟨ns++[_],by rw[GM];rfl,by simp[hnl]⟩,_,_,rfl⟩
  rintro ys σ H2 ⟨rfl,⟨ns,rfl,hnl⟩,v,w,rfl⟩ z hz;have s2:=(PV H2).new (o:=.lst (ns.map PR)) hz;have tz:(upd H2 z (.lst (ns.map PR))) z=some (.lst (ns.map PR)):=aa;generalize upd H2 z (.lst (ns.map PR))=H3 at s2 tz;nofun;refine iS (PP tz) ?_;nofun;refine⟨az (by simp),λt2 ht2=>?_⟩;have to3:=s2 _ _ to;exact k t2 o os _ _ ((s1.trans s2).free ht2) hon ((s1.trans s2).new ht2) aa (by rw[ai (ae to3 ht2)];exact to3) hO
theorem mr (T:Tx K mg t):FnOk P t.wd K mg t.bs CX0 4 t.bP t.fF ["rows","base"] hX:=by
 refine T.iY.okQ sc_first_done (λvs H Q E h=>?_) (λcdv A outer s H vs Q E hr h=>?_)
 ·obtain⟨a,rss,w,b,rfl,_⟩:=h
  rfl
 ·obtain⟨a,rss,w,b,rfl,hW,k⟩:=h
  refine⟨_,(ad (dY (ak (mq T) (hr.mono (by decide)) rfl T.ou T.iZ.kp T.om ay (ag (qv 0) (ag (qv 1) ac))) (bp (K:=K) (n:=2) rfl (aq (ah (i:=2) sc_first_done.nd rfl (GI rfl)) (aq (ah (i:=3) sc_first_done.nd rfl (GI rfl)) aQ))))
   (aj (au (aT (ag (qv 2) (ag (ap (jD (K:=K) rfl) (by rfl) T.kP j2 (ag (aN (N:=["first","last","column"]) (tgs:=["first","last","column"]) (frs:=[]) (ix:=[]) ⟨rfl,by decide +kernel,rfl,by decide +kernel,rfl,rfl,GL,GL,rfl⟩ rfl (aE (K:=K) (qv 3)) (λ_ _ _ _=>(bp (K:=K) (n:=3) rfl (aq (ah (i:=0) (by show G4 (["first","last","column"]:List Str);decide +kernel) rfl (GI rfl)) (aq (ah (i:=1) (by show G4 (["first","last","column"]:List Str);decide +kernel) rfl (GI rfl)) (aq (ah (i:=2) (by show G4 (["first","last","column"]:List Str);decide +kernel) rfl (GI rfl)) aQ))))) (λ_ _ _ _=>(ax cK (qv 1) (qv 0)))) ac)) ac)))))),?_⟩
  rw[show L2.start ["rows","base","order","steps"] [PY a,PR b]=[some (PY a),some (PR b),none,none]from rfl];nofun;refine⟨a,rss,w,b,rfl,hW,λt o st qs os sts H1 hsl tt to hO ts hT _ hon s1=>?_⟩;have hql:qs.length<=60:=by rw[hT.1];exact hsl
  refine aV tt ?_;dsimp only[HV];nofun;refine⟨st,rfl,⟨_,PP ts⟩,aF (a:=st) (vs:=qs.map PY) (λi ys σ H'=>H'=H1/\(∃ns:List Int,ys=ns.map PR/\ns.length=i)/\∃v w u,σ=[v,w,u]) (by rw[GA];exact am ⋯) (λi ys σ H' h=>by obtain⟨_,⟨ns,rfl,e⟩,_⟩:=h;rw[GA,e]) (λi ys σ H' h=>by rw[h.1];exact PP ts) ⟨rfl,⟨[],rfl,rfl⟩,none,none,none,rfl⟩ ?_ ?_⟩
  ·rintro i ys σ H' x hx ⟨rfl,⟨ns,rfl,hnl⟩,v,w,u,rfl⟩
   have hil:=aI hx;obtain⟨q,rfl,hq,_,hi⟩:=aA hx;have tq:=hT.2 i q _ hq (Gz (by rw[<-hT.1];exact hi));refine gR tq ?_;dsimp only[HV];nofun;exact PX hil ⟨rfl,⟨ns++[_],by rw[GM];rfl,by simp[hnl]⟩,_,_,_,rfl⟩
  rintro ys σ H2 ⟨rfl,⟨ns,rfl,hnl⟩,v,w,u,rfl⟩ z hz;have s2:=(PV H2).new (o:=.lst (ns.map PR)) hz;have tz:(upd H2 z (.lst (ns.map PR))) z=some (.lst (ns.map PR)):=aa;generalize upd H2 z (.lst (ns.map PR))=H3 at s2 tz;nofun;refine iS (PP tz) ?_;nofun;refine⟨az (by simp),λt2 ht2=>?_⟩;have to3:=s2 _ _ to;exact k t2 o os _ _ ((s1.trans s2).free ht2) hon ((s1.trans s2).new ht2) aa (by rw[ai (ae to3 ht2)];exact to3) hO
theorem nX (T:Tx K mg t):FnOk P t.wd K mg t.bs CX0 4 t.ck t.gu ["rows","base"] hX:=by
 refine T.kc.okQ sc_runs_done (λvs H Q E h=>?_) (λcdv A outer s H vs Q E hr h=>?_)
 ·obtain⟨a,rss,w,b,rfl,_⟩:=h
  rfl
 ·obtain⟨a,rss,w,b,rfl,hW,k⟩:=h
  refine⟨_,(ad (dY (ak (rT T) (hr.mono (by decide)) rfl T.vU T.n9.kp T.vF ay (ag (qv 0) ac)) (bp (K:=K) (n:=2) rfl (aq (ah (i:=2) sc_runs_done.nd rfl (GI rfl)) (aq (ah (i:=3) sc_runs_done.nd rfl (GI rfl)) aQ))))
   (aj (au (aT (ag (qv 2) (ag (ap (jD (K:=K) rfl) (by rfl) T.kP j2 (ag (aN (N:=["first","middle","last"]) (tgs:=["first","middle","last"]) (frs:=[]) (ix:=[]) ⟨rfl,by decide +kernel,rfl,by decide +kernel,rfl,rfl,GL,GL,rfl⟩ rfl (aE (K:=K) (qv 3)) (λ_ _ _ _=>(bp (K:=K) (n:=3) rfl (aq (ah (i:=0) (by show G4 (["first","middle","last"]:List Str);decide +kernel) rfl (GI rfl)) (aq (ah (i:=1) (by show G4 (["first","middle","last"]:List Str);decide +kernel) rfl (GI rfl)) (aq (ah (i:=2) (by show G4 (["first","middle","last"]:List Str);decide +kernel) rfl (GI rfl)) aQ))))) (λ_ _ _ _=>(ax cK (qv 2) (qv 0)))) ac)) ac)))))),?_⟩
  rw[show L2.start ["rows","base","order","steps"] [PY a,PR b]=[some (PY a),some (PR b),none,none]from rfl];nofun;refine⟨a,rss,w,b,rfl,hW,λt o st os qs H1 _ hon s1 tt to hO ts hT hsl=>?_⟩;have hql:qs.length<=60:=by rw[hT.1];exact hsl
  refine aV tt ?_;dsimp only[HV];nofun;refine⟨st,rfl,⟨_,PP ts⟩,aF (a:=st) (vs:=qs.map PY) (λi ys σ H'=>H'=H1/\(∃ns:List Int,ys=ns.map PR/\ns.length=i)/\∃v w u,σ=[v,w,u]) (by rw[GA];exact am ⋯) (λi ys σ H' h=>by obtain⟨_,⟨ns,rfl,e⟩,_⟩:=h;rw[GA,e]) (λi ys σ H' h=>by rw[h.1];exact PP ts) ⟨rfl,⟨[],rfl,rfl⟩,none,none,none,rfl⟩ ?_ ?_⟩
  ·rintro i ys σ H' x hx ⟨rfl,⟨ns,rfl,hnl⟩,v,w,u,rfl⟩
   have hil:=aI hx;obtain⟨q,rfl,hq,_,hi⟩:=aA hx;have tq:=hT.2 i q _ hq (Gz (by rw[<-hT.1];exact hi));refine gR tq ?_;dsimp only[HV];nofun;exact PX hil ⟨rfl,⟨ns++[_],by rw[GM];rfl,by simp[hnl]⟩,_,_,_,rfl⟩
  rintro ys σ H2 ⟨rfl,⟨ns,rfl,hnl⟩,v,w,u,rfl⟩ z hz;have s2:=(PV H2).new (o:=.lst (ns.map PR)) hz;have tz:(upd H2 z (.lst (ns.map PR))) z=some (.lst (ns.map PR)):=aa;generalize upd H2 z (.lst (ns.map PR))=H3 at s2 tz;nofun;refine iS (PP tz) ?_;nofun;refine⟨az (by simp),λt2 ht2=>?_⟩;have to3:=s2 _ _ to;exact k t2 o os _ _ ((s1.trans s2).free ht2) hon ((s1.trans s2).new ht2) aa (by rw[ai (ae to3 ht2)];exact to3) hO
def EZ(K:GC)(t:Ad):V->Sp->Prop:=λv sp=>(v=.ref t.ci/\sp=hX)\/(v=.ref t.bP/\sp=hX)\/(v=.ref t.ck/\sp=hX)
theorem Go{α β γ δ ε ζ:Type}{G:Prop}{S B:α->β->γ->δ->ε->ζ->Hp->Prop}(hA:(∀a b c d e f H,S a b c d e f H->B a b c d e f H)->G)(hB:∀a b c d e f H,S a b c d e f H->B a b c d e f H):G:=hA hB
def PutAt(H:Hp)(us ys:List V)(os:List Nat):Prop:=ys.length=us.length/\∀(k o:Nat) z,os[k]? = some o->us[o]? = some z->∃y,ys[k]? = some y/\ThE H z y
theorem PutAt.same{H H':Hp}{us ys:List V}{os:List Nat}(h:PutAt H us ys os)(s:Same H H'):PutAt H' us ys os:=⟨h.1,λk o z a b=>by obtain⟨y,e,t⟩:=h.2 k o z a b;exact⟨y,e,t.same s⟩⟩
theorem KAt.th{H:Hp}{k:Kd}{us:List V}(h:KAt H k us):∀z∈us,Th H z:=λz hz=>by
 cases k with
 | nu ns=>
  obtain rfl:us=ns.map PR:=h;obtain⟨x,_,rfl⟩:=GX.mp hz;exact .inl (.inr (.inr (.inl ⟨x,rfl⟩)))
 | te zs=>
  obtain rfl:us=zs.map PU:=h;obtain⟨x,_,rfl⟩:=GX.mp hz;exact .inl (.inr (.inr (.inr ⟨x,rfl⟩)))
 | pa tb=>
  obtain⟨qs,rfl,hP⟩:=h;obtain⟨q,hq,rfl⟩:=GX.mp hz;obtain⟨i,hi,rfl⟩:=IP hq;have e:=hP.2 i qs[i] (tb[i]'(by rw[<-hP.1];exact hi)) (Gz hi) (Gz (by rw[<-hP.1];exact hi));exact .inr ⟨qs[i],_,rfl,e,by simp,by simp,λx hx=>by
   simp only[GW,Hy,or_false]at hx;rcases hx with rfl|rfl<;>exact .inr (.inr (.inl ⟨_,rfl⟩))⟩
def E1 (K:GC):Sp:=λvs H Q _=>∃(way:Str) (k:Kd) (us:List V) (a:Addr) (b:Nat),vs=[.str way,.str k.name,.ref a,.int b]/\(way = "last"\/way = "first"\/way = "runs")/\H a=some (.lst us)/\KAt H k us/\k.ok/\2<=b/\b<=64/\
 ∀(t l o:Addr) (os:List Nat) (ys:List V) (m:Int) (rss:List (List Nat)) (w by':Nat) H',Same H H'->H' t=some (.tup [.ref l,.ref o,.int m])->H' o=some (.lst (NV os))->H' l=some (.lst ys)->PutAt H' us ys os->k.rows b rss w by'->OrdR rss os->Q (.ref t) H'
theorem rV (T:Tx K mg t):FnOk P t.wd K mg t.bs CX0 5 t.kz t.kq ["way","kind","keys","base"] (E1 K):=by
 refine T.oe.okQ sc_ordered (λvs H Q E h=>?_) (λcdv A outer s H vs Q E hr h=>?_)
 ·obtain⟨way,k,us,a,b,rfl,_⟩:=h
  rfl
 ·obtain⟨way,k,us,a,b,rfl,hway,ta,hA,hk,hb,hb2,q⟩:=h
  refine⟨_,(ad (dY (ak (dP T) (hr.mono (by decide)) rfl T.fN T.dQ.kp T.fD ay (ag (qv 1) (ag (qv 2) (ag (qv 3) ac)))) (bp (K:=K) (n:=2) rfl (aq (ah (i:=4) sc_ordered.nd rfl (GI rfl)) (aq (ah (i:=5) sc_ordered.nd rfl (GI rfl)) aQ))))
   (ad (ar (i:=6) sc_ordered.nd rfl (GI rfl) (aJ (Cy T.yc) (lW (v:=.ref t.lr) rfl T.C6 rfl) (qv 0)))
   (ad (dY (qE (R:=EZ K t) (qv 6) (λv sp h=>by
     rcases h with⟨rfl,rfl⟩|⟨rfl,rfl⟩|⟨rfl,rfl⟩
     ·exact⟨_,_,_,_,_,rfl,nW T,hr.mono (by decide),T.kb.kp,T.pJ,ay⟩
     ·exact⟨_,_,_,_,_,rfl,mr T,hr.mono (by decide),T.iY.kp,T.oj,ay⟩
     ·exact⟨_,_,_,_,_,rfl,nX T,hr.mono (by decide),T.kc.kp,T.pK,ay⟩) (ag (qv 5) (ag (qv 4) ac))) (bp (K:=K) (n:=2) rfl (aq (ah (i:=7) sc_ordered.nd rfl (GI rfl)) (aq (ah (i:=8) sc_ordered.nd rfl (GI rfl)) aQ))))
   (ad (ar (i:=9) sc_ordered.nd rfl (GI rfl) (ak (CC T) (hr.mono (by decide)) rfl T.Fa T.C2.kp T.E8 ay (ag (qv 2) (ag (qv 7) ac))))
   (ad (bR (aD v0 (qv 1) bX (aK _)) (aj (io (i:=9) (N:=["key"]) (tgs:=["key"]) (frs:=[]) (ix:=[])  sc_ordered.nd rfl (GI rfl) ⟨rfl,by decide +kernel,rfl,by decide +kernel,rfl,rfl,GL,GL,rfl⟩ rfl (aE (K:=K) (qv 9)) (λ_ _ _ _=>(ah (i:=0) (by show G4 (["key"]:List Str);decide +kernel) rfl (GI rfl))) (λ_ _ _ _=>(aP (bL (K:=K)) (by rfl) T.bA bu (ag (qv 0) ac))))) bi)
   (aj (au (aT (ag (qv 9) (ag (qv 7) (ag (qv 8) ac))))))))))),?_⟩
  rw[show L2.start ["way","kind","keys","base","by","rows","done","order","moves","told"] [PU way,PU k.name,PY a,PR b]=[some (PU way),some (PU k.name),some (PY a),some (PR b),none,none,none,none,none,none]from rfl];nofun;refine⟨k,us,a,b,rfl,.inl ta,hA,hk,hb,hb2,λp0 l ps rss w by' H1 s1 tt tl hR hr=>?_⟩;obtain⟨hG,hrl,hw,hby⟩:=hr.good hk hb hb2;have hrn:rss.length<=60:=by rw[hrl];exact hk.le
  have hul:us.length=rss.length:=hA.len.trans hrl.symm;refine aV tt ?_;have hW:Rws H1 l rss w by':=⟨⟨ps,tl,hR⟩,hG,hrn,hw,hby⟩;nofun;apply Go (S:=λ(z o:Addr) (os:List Nat) (m:Int) (_ _:V) H2=>Same H1 H2/\H2 z=some (.tup [.ref o,.int m])/\H2 o=some (.lst (NV os))/\OrdR rss os);case hA=>
   intro key;obtain⟨w2,e2⟩:∃w2,w2=way:=⟨_,rfl⟩
   rw[<-e2];have h2:w2 = "last"\/w2 = "first"\/w2 = "runs":=e2▸hway;clear e2;rcases h2 with rfl|rfl|rfl
   ·refine⟨_,_,rfl,rfl,rfl,?_⟩
    nofun;refine⟨hX,.inl ⟨rfl,rfl⟩,?_⟩;nofun;refine⟨l,rss,w,by',rfl,hW,λz o os m H2 _ _ s2 tz to hO=>?_⟩;generalize PY t.ci=vd;generalize PU (Hi "last")=vw;exact key z o os m vd vw H2 ⟨s2,tz,to,hO⟩
   ·refine⟨_,_,rfl,rfl,rfl,?_⟩
    nofun;refine⟨hX,.inr (.inl ⟨rfl,rfl⟩),?_⟩;nofun;refine⟨l,rss,w,by',rfl,hW,λz o os m H2 _ _ s2 tz to hO=>?_⟩;generalize PY t.bP=vd;generalize PU (Hi "first")=vw;exact key z o os m vd vw H2 ⟨s2,tz,to,hO⟩
   ·refine⟨_,_,rfl,rfl,rfl,?_⟩
    nofun;refine⟨hX,.inr (.inr ⟨rfl,rfl⟩),?_⟩;nofun;refine⟨l,rss,w,by',rfl,hW,λz o os m H2 _ _ s2 tz to hO=>?_⟩;generalize PY t.ck=vd;generalize PU (Hi "runs")=vw;exact key z o os m vd vw H2 ⟨s2,tz,to,hO⟩
  case hB=>
   rintro z o os m vd vw H2 ⟨s2,tz,to,hO⟩;refine aV tz ?_;dsimp only[HV];have s12:=s1.trans s2;have hos:Ord os us.length:=by rw[hul];exact Ord.of_perm hO.1
   nofun;refine⟨a,o,us,os,us.length,rfl,.inl (s12 _ _ ta),λz hz=>(hA.th z hz).same s12,rfl,.inl to,hos,by lia,λd ys H3 hd s3 td hyl hys=>?_⟩;have hPA:PutAt H3 us ys os:=⟨hyl,hys⟩;have s13:=s12.trans s3;have to3:=s3 _ _ to;nofun;have hyt:∀tb,k=.pa tb->∀y∈ys,∃u xs,y=.ref u/\H3 u=some (.tup xs):=λtb ek y hy=>by
    subst ek;obtain⟨i,hi,rfl⟩:=IP hy;have hio:i<os.length:=by rw[hos.len,<-hyl];exact hi
    have hoi:=hos.lt os[i] (GU hio);obtain⟨y',e1,e2⟩:=hys i os[i] us[os[i]] (Gz hio) (Gz hoi);rw[Gz hi]at e1;cases e1;obtain⟨qs,rfl,_⟩:=hA;rcases e2 with⟨e3,_⟩|⟨_,u,xs,_,e4,_,e5,_⟩
    ·have e6:(qs.map PY)[os[i]]=PY (qs[os[i]]'(by simpa using hoi)):=LS ..
     rw[e6]at e3;rcases e3 with e3|⟨_,e3⟩|⟨_,e3⟩|⟨_,e3⟩<;>cases e3
    ·exact⟨u,xs,e4,e5⟩
   apply FC (α:=Addr) (S:=λc H4=>Same H3 H4/\H4 c=some (.lst ys));case hA=>
    intro key;obtain⟨k2,e2⟩:∃k2,k2=k:=⟨_,rfl⟩
    rw[<-e2];cases k2 with
    | nu ns=>
     refine gI (show ¬PU (Hi "number")=PU (Hi "part")by decide) ?_;nofun;generalize h8:d=d9;generalize h9:H3=H9;exact key d9 H9 ⟨h9▸PV _,h8▸h9▸td⟩
    | te zs=>
     refine gI (show ¬PU (Hi "text")=PU (Hi "part")by decide) ?_;nofun;generalize h8:d=d9;generalize h9:H3=H9;exact key d9 H9 ⟨h9▸PV _,h8▸h9▸td⟩
    | pa tb=>
     refine m8 rfl ?_;nofun;refine⟨d,rfl,⟨_,PP td⟩,aF (a:=d) (vs:=ys) (λi zs σ H'=>H3=H'/\i<=ys.length/\zs=ys.take i/\∃v,σ=[v]) (by rw[hyl];exact am ⋯) (λi zs σ H' h=>by rw[h.2.2.1,G5];lia) (λi zs σ H' h=>by rw[<-h.1];exact PP td) ⟨rfl,GR _,rfl,none,rfl⟩ ?_ ?_⟩
     ·rintro i zs σ H' x hx ⟨rfl,_,rfl,v,rfl⟩
      have hil:=aI hx;obtain⟨u,xs,rfl,tu⟩:=hyt tb e2.symm x (Hc hx);nofun;refine⟨u,_,rfl,.inr ⟨PQ tu,?_⟩⟩;exact PX hil ⟨rfl,hil,by rw[GS,hx];rfl,_,rfl⟩
     rintro zs σ H4 ⟨rfl,_,rfl,v,rfl⟩ c hc;rw[GJ (GF _)];have sc:=(PV H3).new (o:=.lst ys) hc;have tc:(upd H3 c (.lst ys)) c=some (.lst ys):=aa;generalize upd H3 c (.lst ys)=H5 at sc tc;nofun;exact key c H5 ⟨sc,tc⟩
   case hB=>
    rintro c H4 ⟨s4,tc⟩;nofun;refine⟨az (by simp),λe he=>?_⟩;exact q e c o os ys m rss w by' _ ((s13.trans s4).new he) aa (by rw[ai (ae (s4 _ _ to3) he)];exact s4 _ _ to3) (by rw[ai (ae tc he)];exact tc) ((hPA.same s4).same ((PV _).new he)) hr hO
def AC:Sp:=λvs H Q _=>∃(p:Addr),vs=[.ref p]/\Tape H p/\∀(r:Nat) H',r<=12->Stp p H H'->Q (.int r) H'
theorem AD (T:Tx K mg t):FnOk P t.wd K mg t.bs CX0 2 t.vR t.vL ["_law_tape_here"] AC:=by
 refine T.yO.okQ Al (λvs H Q E h=>?_) (λcdv A outer s H vs Q E hr h=>?_)
 ·obtain⟨p,rfl,_⟩:=h
  rfl
 ·obtain⟨p,rfl,hT,k⟩:=h
  refine⟨_,(aj (au (aJ (bg (K:=K)) (ba (ag (ak (bz T) (hr.mono (by decide)) rfl T.bZ T.bV.kp T.bY ay (ag (qv 0) (ag af ac))) (ag (ax ca af (ak (bz T) (hr.mono (by decide)) rfl T.bZ T.bV.kp T.bY ay (ag (qv 0) (ag af ac)))) ac))) (aP yt (by rfl) T.sg uZ (ag (oP v0 (ak (bz T) (hr.mono (by decide)) rfl T.bZ T.bV.kp T.bY ay (ag (qv 0) (ag af ac))) af (aK _)) ac))))),?_⟩;rw[show L2.start ["_law_tape_here"] [PY p]=[some (PY p)]from rfl];nofun;refine⟨p,7,rfl,hT,by decide,by decide,λr1 H1 a0 a1 S1=>?_⟩;nofun;refine⟨p,6,rfl,S1.tape,by decide,by decide,λr2 H2 b0 b1 S2=>?_⟩;nofun;refine⟨az (by simp),λq hq=>?_⟩;nofun;have S12:=S1.trans S2;refine⟨p,8,rfl,(S12.new hq).tape,by decide,by decide,λr3 H3 c0 c1 S3=>?_⟩;nofun;obtain⟨v,e,hv⟩:=im (xs:=[PR r1,PR (7+r2)]) (r:=if decide (PR r3=PR 0)=true then 1 else 0) (by split<;>lia) (by simp only[Hh,Ie];split<;>lia);refine bB (PP (S3.keep q _ aa (S12.tape.ne hq))) e ?_;simp only[GW,Hy,or_false]at hv;rcases hv with rfl|rfl
  ·have:=k r1.toNat H3 ⋯ ((S12.new hq).trans S3)
   rw[Jr a0]at this;exact this
  ·have:=k (7+r2).toNat H3 ⋯ ((S12.new hq).trans S3)
   rw[Jr ⋯]at this;exact this
def E2:Sp:=λvs H Q _=>∃(p:Addr) (b:Int),vs=[.ref p,.int b]/\Tape H p/\2<=b/\b<=64/\∀(n:Int) H',-(10 ^ 18)<n->n<10 ^ 18->Stp p H H'->Q (.int n) H'
theorem CS (T:Tx K mg t):FnOk P t.wd K mg t.bs CX0 3 t.AR t.AN ["_law_tape_here","_law_base_here"] E2:=by
 refine T.C1.okQ CA (λvs H Q E h=>?_) (λcdv A outer s H vs Q E hr h=>?_)
 ·obtain⟨p,b,rfl,_⟩:=h
  rfl
 ·obtain⟨p,b,rfl,hT,hb,hb2,k⟩:=h
  refine⟨_,(aj (au (ax i7 (ak (u6 T) (hr.mono (by decide)) rfl T.ya T.qN.kp T.xY ay (ag (qv 0) (ag (qv 1) ac))) (aJ (bg (K:=K)) (ba (ag af (ag af (ag (jz jC af) ac)))) (ak (bz T) (hr.mono (by decide)) rfl T.bZ T.bV.kp T.bY ay (ag (qv 0) (ag af ac))))))),?_⟩;rw[show L2.start ["_law_tape_here","_law_base_here"] [PY p,PR b]=[some (PY p),some (PR b)]from rfl];nofun;refine⟨p,b,rfl,hT,hb,hb2,λn H1 n0 n1 S1=>?_⟩;nofun;refine⟨az (by simp),λq hq=>?_⟩;nofun;refine⟨p,3,rfl,(S1.new hq).tape,by decide,by decide,λr H2 r0 r1 S2=>?_⟩;obtain⟨v,e,hv⟩:=im (xs:=[PR 1,PR 1,PR (-1)]) r0 r1;refine bB (PP (S2.keep q _ aa (S1.tape.ne hq))) e ?_;simp only[GW,Hy,or_false]at hv;have S:=(S1.new (o:=.lst [PR 1,PR 1,PR (-1)]) hq).trans S2;rcases hv with rfl|rfl|rfl<;>exact Ee (BK ⋯ ⋯) (k _ _ ⋯ ⋯ S)
def CT:Sp:=λvs H Q _=>∃(p:Addr) (b:Int),vs=[.ref p,.int b]/\Tape H p/\2<=b/\b<=64/\∀(l:Addr) (ns:List Int) H',ns.length<=12->(∀x∈ns,-(10 ^ 18)<x/\x<10 ^ 18)->Stp p H H'->H l=none->H' l=some (.lst (ns.map PR))->Q (.ref l) H'
theorem AE (T:Tx K mg t):FnOk P t.wd K mg t.bs CX0 4 t.vQ t.vK ["_law_tape_here","_law_base_here"] CT:=by
 refine T.yN.okQ sc_keys (λvs H Q E h=>?_) (λcdv A outer s H vs Q E hr h=>?_)
 ·obtain⟨p,b,rfl,_⟩:=h
  rfl
 ·obtain⟨p,b,rfl,hT,hb,hb2,k⟩:=h
  refine⟨_,(ad (ar (i:=2) sc_keys.nd rfl (GI rfl) (ax cK (ax oR af af) af))
   (ad (io (i:=3) (N:=["_law_k","_law_tape_here","_law_base_here"]) (tgs:=["_law_k"]) (frs:=["_law_tape_here","_law_base_here"]) (ix:=[0,1])  sc_keys.nd rfl (GI rfl) ⟨rfl,by decide +kernel,rfl,by decide +kernel,rfl,rfl,⟨⟨rfl,rfl,_,rfl,rfl⟩,⟨rfl,rfl,_,rfl,rfl⟩,GL⟩,⟨rfl,rfl,GL⟩,rfl⟩ rfl (bT rfl T.bn (ag (ax ca af (ak (bz T) (hr.mono (by decide)) rfl T.bZ T.bV.kp T.bY ay (ag (qv 0) (ag af ac)))) ac)) (λ_ _ _ _=>(ah (i:=0) (by show G4 (["_law_k","_law_tape_here","_law_base_here"]:List Str);decide +kernel) rfl (GI rfl))) (λ_ _ _ _=>(ak (CS T) (hr.mono (by decide)) rfl T.E9 T.C1.kp T.E7 ay (ag (qv 1) (ag (qv 2) ac)))))
   (ad (ar (i:=4) sc_keys.nd rfl (GI rfl) (ba ac))
   (ad (bC Ha rfl (bT rfl T.bn (ag (ak (AD T) (hr.mono (by decide)) rfl T.C9 T.yO.kp T.C4 ay (ag (qv 0) ac)) ac)) (ah (i:=5) sc_keys.nd rfl (GI rfl)) (ad (ar (i:=6) sc_keys.nd rfl (GI rfl) (ax ca (aJ (bg (K:=K)) (qv 3) (ak (bz T) (hr.mono (by decide)) rfl T.bZ T.bV.kp T.bY ay (ag (qv 0) (ag (ap (aW (K:=K)) (by rfl) T.bv aR (ag (qv 3) ac)) ac)))) (aJ (bg (K:=K)) (ba (ag af (ag af (ag af (ag (jz jC af) ac))))) (ak (bz T) (hr.mono (by decide)) rfl T.bZ T.bV.kp T.bY ay (ag (qv 0) (ag af ac))))))
   (aj (bx (be (K:=K) (qv 4) (ag (ap (tM rfl) (by rfl) T.mS li (ag (qv 2) (ag (ap (BW rfl) (by rfl) T.ox u4 (ag (jz jC (qv 2)) (ag (qv 6) ac))) ac))) ac))))))
   (aj (au (qv 4))))))),?_⟩
  rw[show L2.start ["_law_tape_here","_law_base_here","_law_most","_law_some","_law_found","_law_k","_law_key_here"] [PY p,PR b]=[some (PY p),some (PR b),none,none,none,none,none]from rfl];nofun;refine⟨p,5,rfl,hT,by decide,by decide,λr0 H1 a0 a1 S1=>?_⟩;nofun;refine⟨1+r0,rfl,by lia,by lia,lC (λi ys σ H2=>Stp p H1 H2/\(∃ns:List Int,ys=ns.map PR/\ns.length=i/\∀x∈ns,-(10 ^ 18)<x/\x<10 ^ 18)/\∃v,σ=[v,some (PY p),some (PR b)]) (am ⋯) (λi ys σ H2 h=>by obtain⟨_,⟨ns,rfl,e,_⟩,_⟩:=h;rw[GA,e]) ⟨Stp.refl S1.tape,⟨[],rfl,rfl,λx h=>nomatch h⟩,none,rfl⟩ ?_ ?_⟩
  ·rintro i ys σ H2 hi ⟨S2,⟨ns,rfl,hnl,hbd⟩,v,rfl⟩
   nofun;refine⟨p,b,rfl,S2.tape,hb,hb2,λn H3 n0 n1 S3=>?_⟩;refine PX hi ⟨S2.trans S3,⟨ns++[n],by rw[GM];rfl,by simp[hnl],λx hx=>?_⟩,_,rfl⟩;rcases G9.mp hx with h|h
   ·exact hbd x h
   ·have:x=n:=by simpa using h
    subst this;exact⟨n0,n1⟩
  rintro ys σ H2 ⟨S2,⟨ns,rfl,hnl,hbd⟩,v,rfl⟩ a4 ha4;have S3:Stp p H (upd H2 a4 (.lst (ns.map PR))):=(S1.trans S2).new ha4;have t4:(upd H2 a4 (.lst (ns.map PR))) a4=some (.lst (ns.map PR)):=aa;have na4:a4≠p:=S2.tape.ne ha4;generalize upd H2 a4 (.lst (ns.map PR))=H3 at S3 t4;nofun;refine⟨az (by simp),λl hl=>?_⟩;have hlp:l≠p:=S3.tape.ne hl;have hla:a4≠l:=ae t4 hl;nofun;refine⟨p,rfl,(S3.new hl).tape,λr H4 hr S4=>?_⟩;nofun;have tl4:H4 l=some (.lst ([].map PR)):=S4.keep l _ aa hlp;have t44:H4 a4=some (.lst (ns.map PR)):=S4.keep a4 _ (by rw[ai hla];exact t4) na4;have S34:Stp p H3 H4:=(((Stp.refl S3.tape).new hl).trans S4);refine⟨r,rfl,by lia,by lia,dG (λi σ H5=>Stp p H3 H5/\(∃ms:List Int,H5 l=some (.lst (ms.map PR))/\ms.length=i/\∀x∈ms,-(10 ^ 18)<x/\x<10 ^ 18)/\∃v w,σ=[some (PY p),some (PR b),some (PR (1000000000000000000 - 1)),some (PY a4),some (PY l),v,w]) ⟨S34,⟨[],tl4,rfl,λx h=>nomatch h⟩,_,_,rfl⟩ ?_ ?_⟩
  ·rintro i σ H5 hi ⟨S5,⟨ms,tl5,hml,hbm⟩,v,w,rfl⟩
   have t45:H5 a4=some (.lst (ns.map PR)):=S5.keep a4 _ t4 na4;nofun;refine aH (PP t45) ?_;nofun;refine⟨p,_,rfl,S5.tape,by rw[GA];lia,by rw[GA];lia,λr1 H6 b0 b1 S6=>?_⟩;obtain⟨u,e1,hu⟩:=im (xs:=ns.map PR) b0 b1;have t46:H6 a4=some (.lst (ns.map PR)):=S6.keep a4 _ t45 na4;have tl6:=S6.keep l _ tl5 hlp;refine bB (PP t46) e1 ?_;obtain⟨x1,hx1,rfl⟩:=GX.mp hu;have hx1b:=hbd x1 hx1;nofun;refine⟨az (by simp),λq hq=>?_⟩;nofun;refine⟨p,4,rfl,((Stp.refl S6.tape).new hq).tape,by decide,by decide,λr2 H7 c0 c1 S7=>?_⟩;obtain⟨u2,e2,hu2⟩:=im (xs:=[PR 0,PR 0,PR 1,PR (-1)]) c0 c1;refine bB (PP (S7.keep q _ aa (S6.tape.ne hq))) e2 ?_;have hu3:∃d:Int,u2=PR d/\-1<=d/\d<=1:=by
    simp only[GW,Hy,or_false]at hu2;rcases hu2 with rfl|rfl|rfl|rfl<;>exact⟨_,rfl,by lia,by lia⟩
   obtain⟨d,rfl,d0,d1⟩:=hu3;have tl7:H7 l=some (.lst (ms.map PR)):=S7.keep l _ (by rw[ai (ae tl6 hq)];exact tl6) hlp;have S57:Stp p H3 H7:=S5.trans (S6.trans (((Stp.refl S6.tape).new hq).trans S7));nofun;refine⟨aX tl7,?_⟩;nofun;refine aL tl7 (by rw[GA];exact am ⋯) ?_;refine⟨S57.own hl hlp,⟨ms++[_],by rw[aa,GM];rfl,by simp[hml],λx hx=>?_⟩,_,_,rfl⟩;rcases G9.mp hx with h|h
   ·exact hbm x h
   ·have e:=G1.mp h
    rw[e];constructor<;>(repeat' split)<;>lia
  ·rintro σ H5 ⟨S5,⟨ms,tl5,hml,hbm⟩,v,w,rfl⟩
   nofun;exact k l ms H5 ⋯ hbm (S3.trans S5) (S3.free hl) tl5
def E3:Sp:=λvs H Q _=>∃(t:Int) (c:Nat),vs=[.int t,.int c]/\1<=c/\c<=60/\-(10 ^ 18)<t/\t<10 ^ 18/\∀(q:Addr) (t':Int) (c' g:Nat),0<g->t'*(g:Int)=t->c'*g=c->H q=none->Q (.ref q) (upd H q (.tup [.int t',.int c']))
theorem vq (T:Tx K mg t):FnOk P t.wd K mg t.bs CX0 1 t.mN t.mH ["_law_top","_law_bottom"] E3:=by
 refine T.qL.okQ sc_lowest (λvs H Q E h=>?_) (λcdv A outer s H vs Q E hr h=>?_)
 ·obtain⟨x,c,rfl,_⟩:=h
  rfl
 ·obtain⟨x,c,rfl,h1,h60,hx1,hx2,q⟩:=h
  refine⟨_,(ad (p6 rfl sc_lowest.nd (i:=2) (j:=3) rfl rfl (by decide) rfl rfl (ag (ap tL (by rfl) T.sf uX (ag (qv 0) ac)) (ag (qv 1) ac)))
   (ad (dX Ha (aD wa (qv 3) af (aK _)) (aj (p6 rfl sc_lowest.nd (i:=2) (j:=3) rfl rfl (by decide) rfl rfl (ag (qv 3) (ag (ax jB (qv 2) (qv 3)) ac)))))
   (aj (au (aT (ag (ax dl (qv 0) (qv 2)) (ag (ax dl (qv 1) (qv 2)) ac))))))),?_⟩
  rw[show L2.start ["_law_top","_law_bottom","_law_one","_law_other"] [PR x,PR c]=[some (PR x),some (PR c),none,none]from rfl];nofun;have ea:(if x<0 then -x else x)=((x.natAbs:Nat):Int):=by split<;>lia
  try rw[ea]
  refine⟨λm σ H'=>H'=H/\∃(g l:Nat),σ=[some (PR x),some (PR c),some (PR g),some (PR l)]/\Jg g l=Jg x.natAbs c/\l=m,⟨c,rfl,x.natAbs,c,rfl,rfl,rfl⟩,?_⟩;rintro m σ H' ⟨rfl,g,l,rfl,e,rfl⟩;nofun;refine aS (λh1=>?_) (λh1=>?_)
  ·refine⟨_,λ_ _ z=>z,?_⟩
   nofun;have hl:0<l:=by lia
   rw[<-LZ];exact⟨g % l,KS _ hl,rfl,l,g % l,rfl,by rw[qd hl,e],rfl⟩
  ·have hl:l=0:=by lia
   subst hl;rw[Nl]at e;have hd1:g∣x.natAbs:=by rw[e];exact NH ..
   have hd2:g∣c:=by rw[e];exact Lw ..
   have hg:0<g:=Nat.pos_of_dvd_of_pos hd2 ⋯;nofun;have hgc:g<=c:=Lm ⋯ hd2;have hlog:rk x (g:Int):=⟨by lia,HI (NK _) ⋯⟩;have hlog2:rk (c:Int) (g:Int):=⟨by lia,HI (NK _) ⋯⟩;refine Ee hlog ?_;nofun;refine⟨az (by simp),λp hp=>?_⟩;rw[<-IS];exact q p _ _ g hg (Int.ediv_mul_cancel (Int.ofNat_dvd_left.mpr hd1)) (Nat.div_mul_cancel hd2) hp
theorem xQ(n b m:Nat):dgN n b (m+1)=n / b ^ m % b::dgN n b m:=by
 unfold dgN;rw[Mz,Hg,Hv];congr 1;refine HN λj _=>?_
 show n / b ^ (m+1 - 1 - (j+1)) % b=_
 congr 3;lia
noncomputable def txN(n m:Nat):Str:=⟨((dgN n 26 m).map (· + 97)).toArray⟩
theorem vt {k:Nat}(h:k<26):atI ("abcdefghijklmnopqrstuvwxyz" : Str).cps.toList (k:Nat)=some (k+97):=by
 have:∀k:Nat,k<26->atI ("abcdefghijklmnopqrstuvwxyz" : Str).cps.toList (k:Nat)=some (k+97):=by decide +kernel
 exact this k h
def E4:Sp:=λvs H Q _=>∃(n:Nat),vs=[.int n,.int 14]/\Q (.str (txN n 14)) H
theorem rW (T:Tx K mg t):FnOk P t.wd K mg t.bs CX0 1 t.kB t.kw ["_law_number_here","_law_columns"] E4:=by
 refine T.og.okQ sc_text_of (λvs H Q E h=>?_) (λcdv A outer s H vs Q E hr h=>?_)
 ·obtain⟨n,rfl,_⟩:=h
  rfl
 ·obtain⟨n,rfl,k⟩:=h
  refine⟨_,(ad (ar (i:=2) sc_text_of.nd rfl (GI rfl) bX)
   (ad (bC Ha rfl (bT rfl T.bn (ag (qv 1) ac)) (ah (i:=3) sc_text_of.nd rfl (GI rfl)) (ad (ar (i:=2) sc_text_of.nd rfl (GI rfl) (ax uF (aJ Ac bX (ax jB (qv 0) af)) (qv 2)))
   (aj (ar (i:=0) sc_text_of.nd rfl (GI rfl) (ax dl (qv 0) af)))))
   (aj (au (qv 2))))),?_⟩
  rw[show L2.start ["_law_number_here","_law_columns","_law_found","_law_k"] [PR n,PR 14]=[some (PR n),some (PR 14),none,none]from rfl];nofun;refine⟨14,rfl,by lia,by lia,dG (n:=14) (λi σ H'=>H=H'/\∃v,σ=[some (PR ((n / 26 ^ i:Nat):Int)),some (PR 14),some (PU (txN n i)),v]) ⟨rfl,none,by rw[Nat.pow_zero,Nat.div_one];rfl⟩ ?_ ?_⟩
  ·rintro i σ H' hi ⟨rfl,v,rfl⟩
   nofun;have el:(26:Int)≠0:=by decide
   have em:((n / 26 ^ i:Nat):Int) % 26=((n / 26 ^ i % 26:Nat):Int):=by lia
   have hlt:n / 26 ^ i % 26<26:=KS _ (by decide);have ed:((n / 26 ^ i:Nat):Int) / 26=((n / 26 ^ (i+1):Nat):Int):=by rw[JF,<-Mu];lia
   rw[em];refine⟨_,_,_,rfl,rfl,by decide +kernel,vt hlt,?_⟩;nofun;refine⟨_,_,rfl,rfl,by unfold txN;simp[Lx,mo];exact az ⋯,?_⟩;have ex:(⟨#[n / 26 ^ i % 26+97]⟩:Str)++txN n i=txN n (i+1):=by
    show(⟨#[n / 26 ^ i % 26+97]++((dgN n 26 i).map (· + 97)).toArray⟩:Str)=⟨((dgN n 26 (i+1)).map (· + 97)).toArray⟩
    rw[xQ,Hg];congr 1;simp
   rw[ex];nofun;rw[ed];exact⟨rfl,_,rfl⟩
  ·rintro σ H' ⟨rfl,v,rfl⟩
   nofun;exact k
theorem xR{t m':Nat}(hb:2<=b)(h1:t<b ^ m)(h2:0<m->b ^ (m - 1)<=t)(h3:t<b ^ m')(h4:0<m'->b ^ (m' - 1)<=t):m=m':=by
 rcases Ij m m' with h|h|h
 ·have:=MV (n:=b) ⋯ (show m<=m' - 1 by lia)
  have:=h4 ⋯;lia
 ·exact h
 ·have:=MV (n:=b) ⋯ (show m'<=m - 1 by lia)
  have:=h2 ⋯;lia
theorem nY{ns:List Int}{c:Int}{w w':Nat}{rss':List (List Nat)}(hb:2<=b)(h:xN ns b rss w)(h':xN (ns.map (· - c)) b rss' w'):rss'=rss:=by
 obtain⟨zs,h,rfl⟩:=h;obtain⟨zs',h',rfl⟩:=h';rcases h with⟨rfl,rfl,rfl⟩|⟨lo,hi,a1,a2,a3,rfl,a4,a5,_⟩
 ·rcases h' with⟨_,rfl,rfl⟩|⟨lo,hi,a1,_⟩
  ·rfl
  ·cases a1
 ·rcases h' with⟨e,_,_⟩|⟨lo',hi',c1,c2,c3,rfl,c4,c5,_⟩
  ·rw[JS]at e;rw[e]at a1;cases a1
  ·obtain⟨x,hx,ex⟩:=GX.mp c1
   obtain⟨y,hy,ey⟩:=GX.mp c2;have e1:=(a3 x hx).1;have e2:=(c3 _ (GX.mpr ⟨lo,a1,rfl⟩)).1;have e3:=(a3 y hy).2;have e4:=(c3 _ (GX.mpr ⟨hi,a2,rfl⟩)).2;have e5:lo'=lo - c:=by lia
   have e6:hi'=hi - c:=by lia
   subst e5 e6;have e7:(hi - c - (lo - c)).toNat=(hi - lo).toNat:=by lia
   rw[e7]at c4 c5;rw[xR hb c4 c5 a4 a5,Hv,Hv,Hv];refine HN λz _=>?_
   show dgN (z - c - (lo - c)).toNat _ _=dgN (z - lo).toNat _ _
   congr 1;lia
theorem nZ{ns:List Int}{w w':Nat}{rss':List (List Nat)}(hb:2<=b)(h:xN ns b rss w)(h':xN ns b rss' w'):rss'=rss:=nY (c:=0) hb h (by simpa using h')
def LtR(rss:List (List Nat))(ns:List Int):Prop:=∀i j,i<ns.length->j<ns.length->lxt (rss.getD i []) (rss.getD j [])=ltN ns i j
def LtE(ms ns:List Int):Prop:=ms.length=ns.length/\∀i j,i<ns.length->j<ns.length->ltN ms i j=ltN ns i j
theorem LtR.of{ns:List Int}(h:LtR rss ms)(e:LtE ms ns):LtR rss ns:=λi j hi hj=>(h i j (by rw[e.1];exact hi) (by rw[e.1];exact hj)).trans (e.2 i j hi hj)
theorem mt{ns:List Int}{w:Nat}(hb:2<=b)(h:xN ns b rss w):LtR rss ns:=by
 obtain⟨zs,h,rfl⟩:=h;intro i j hi hj;have hl:=h.len;have e1:zs[i]? = some (zs[i]'⋯):=Gz _;have e2:zs[j]? = some (zs[j]'⋯):=Gz _;have g:∀k z,zs[k]? = some z->(zs.map λz=>dgN z b w).getD k []=dgN z b w/\(zs.map λz=>dg z b w)[k]? = some (dg z b w):=λk z e=>by
  rw[GB,GE,GE,e];exact⟨rfl,rfl⟩
 rw[(g i _ e1).1,(g j _ e2).1];unfold lxt;rw[nQ,nQ];exact Aw h hb i j _ _ (g i _ e1).2 (g j _ e2).2
theorem n6{c:Nat}:∀(a b:List Nat),lxt (a.map (· + c)) (b.map (· + c))=lxt a b
 | [],[]=>rfl
 | [],_::_=>rfl
 | _::_,[]=>rfl
 | x::a,y::b=>by
  rw[Hg,Hg,cL,cL,n6 a b];have e1:(x+c=y+c)↔x=y:=by lia
  have e2:decide (x+c<y+c)=decide (x<y):=decide_eq_decide.mpr ⋯;simp only[e1,e2]
theorem AF{ns:List Int}{m:Int}{w:Nat}(hn:∀x∈ns,m<=x/\x - m<26 ^ 14)(hM:CK (ns.map λx=>txN (x - m).toNat 14) w)(hr:rss=(ns.map λx=>txN (x - m).toNat 14).map (trN w)):LtR rss ns:=by
 have hlen:∀n,(txN n 14).length=14:=λn=>by unfold txN;simp[Lx,mo]
 intro i j hi hj;have hw:w=14:=by
  rcases hM.2 with⟨e,_⟩|⟨z,hz,e⟩
  ·rw[JS]at e;rw[e]at hi;cases hi
  ·obtain⟨x,_,rfl⟩:=GX.mp hz
   rw[hlen]at e;exact e.symm
 subst hw;have g:∀k (hk:k<ns.length),rss.getD k []=(dgN (ns[k] - m).toNat 26 14).map (· + 1):=λk hk=>by
  rw[hr,GB,GE,GE,Gz hk];show trN 14 (txN (ns[k] - m).toNat 14)=_
  unfold trN;rw[hlen,LY,List.replicate_zero,Ic];unfold txN;rw[Hv];refine HN λx _=>?_
  show x+97 - 96=x+1
  lia
 have b1:=hn _ (GU hi);have b2:=hn _ (GU hj);rw[g i hi,g j hj,n6];unfold lxt;rw[nQ,nQ,uK (by decide)];unfold ltN;rw[GB,GB,Gz hi,Gz hj];show _=decide (ns[i]<ns[j])
 refine decide_eq_decide.mpr ?_;rw[Kx ⋯,Kx ⋯];lia
theorem xS(ns:List Int)(c:Int):LtE (ns.map (· - c)) ns:=⟨GA ..,λi j hi hj=>by
 unfold ltN;rw[GB,GB,GB,GB,GE,GE,Gz hi,Gz hj];exact decide_eq_decide.mpr (show ns[i] - c<ns[j] - c↔ns[i]<ns[j]by lia)⟩
theorem qH:∀(k:Nat),(GY k 1).foldl JG 1=1
 | 0=>rfl
 | k+1=>by rw[HM,NO];exact qH k
theorem qI(ns:List Int):fQ ((ns.map λn=>(n,1)).map (·.2))=1:=by
 rw[Hv];show fQ (ns.map λ_=>1)=1
 rw[List.map_const'];exact qH _
theorem j7(ns:List Int):bj (ns.map λn=>(n,1))=ns:=by
 unfold bj;rw[qI,Hv];conv=>rhs;rw[<-List.map_id ns]
 refine HN λz _=>?_
 show z*((1 / 1:Nat):Int)=z
 simp
theorem vv{ns:List Int}{B:Nat}{tb:List (Int×Nat)}(hB:0<B)(hl:tb.length=ns.length)(hb:∀z∈tb,1<=z.2/\z.2<=60)(h:∀(i:Nat) z n,tb[i]? = some z->ns[i]? = some n->∃g:Nat,0<g/\z.1*(g:Int)=n/\z.2*g=B):LtE (bj tb) ns:=⟨(bw tb).trans hl,λi j hi hj=>by
 have hi2:i<tb.length:=by lia
 have hj2:j<tb.length:=by lia
 have hi3:i<(bj tb).length:=by rw[bw];exact hi2
 have hj3:j<(bj tb).length:=by rw[bw];exact hj2
 have q:=uL hb (Gz hi2) (Gz hj2) (Gz hi3) (Gz hj3);obtain⟨g1,p1,a1,c1⟩:=h i _ _ (Gz hi2) (Gz hi);obtain⟨g2,p2,a2,c2⟩:=h j _ _ (Gz hj2) (Gz hj);unfold ltN;rw[GB,GB,GB,GB,Gz hi,Gz hj,Gz hi3,Gz hj3];refine decide_eq_decide.mpr (q.trans ?_);show _↔ns[i]<ns[j]
 generalize tb[i]=z1 at a1 c1;generalize tb[j]=z2 at a2 c2;have c1':(z1.2:Int)*(g1:Int)=(B:Int):=by rw[<-c1,Ja]
 have c2':(z2.2:Int)*(g2:Int)=(B:Int):=by rw[<-c2,Ja]
 have hg:(0:Int)<(g1:Int)*(g2:Int):=MA ⋯ ⋯;have e1:z1.1*(z2.2:Int)*((g1:Int)*(g2:Int))=ns[i]*(B:Int):=by rw[<-a1,<-c2'];ac_rfl
 have e2:z2.1*(z1.2:Int)*((g1:Int)*(g2:Int))=ns[j]*(B:Int):=by rw[<-a2,<-c1'];ac_rfl
 have hB':(0:Int)<(B:Int):=by lia
 constructor
 ·intro q
  have:=IX q hg;rw[e1,e2]at this;exact Jb this (KN hB')
 ·intro q
  have:=IX q hB';rw[<-e1,<-e2]at this;exact Jb this (KN hg)⟩
def wc(ns:List Int)(k:Kd):Prop:=k.ok/\k.len=ns.length/\∀(b:Nat) rss w by',2<=b->k.rows b rss w by'->LtR rss ns
theorem yK{ns:List Int}(hk:(Kd.nu ms).ok)(e:LtE ms ns):wc ns (.nu ms):=⟨hk,e.1,λb rss w by' hb h=>(mt hb h.1).of e⟩
theorem yL{ns:List Int}{tb:List (Int×Nat)}(hk:(Kd.pa tb).ok)(e:LtE (bj tb) ns):wc ns (.pa tb):=⟨hk,(bw tb).symm.trans e.1,λb rss w by' hb h=>(mt hb h.1).of e⟩
def OrdK(ns:List Int)(os:List Nat):Prop:=os.Perm (GH ns.length)/\os.Pairwise λi j=>ltN ns i j=true\/(ltN ns i j=false/\ltN ns j i=false/\i<j)
theorem OrdR.key{ns:List Int}{os:List Nat}(h:OrdR rss os)(hl:rss.length=ns.length)(hR:LtR rss ns):OrdK ns os:=by
 refine⟨hl▸h.1,?_⟩;refine(KA.mpr λ{i j} hs=>?_);have hij:=KA.mp h.2 hs;have hi:i<ns.length:=by rw[<-hl];exact Hj.mp (h.1.mem_iff.mp (hs.subset (Hl ..)))
 have hj:j<ns.length:=by rw[<-hl];exact Hj.mp (h.1.mem_iff.mp (hs.subset (Hn _ (Hl ..))))
 unfold Rk at hij;rw[Ht,Ht]at hij;rw[<-hR i j hi hj,<-hR j i hj hi];rcases hij with q|⟨q,l⟩
 ·exact .inl q
 ·rw[q,k8];exact .inr ⟨rfl,rfl,l⟩
theorem OrdK.one{ns:List Int}{os os':List Nat}(h:OrdK ns os)(h':OrdK ns os'):os=os':=k9 (λi j a b=>by
 unfold ltN at a b;simp at a b;lia) (h.1.trans h'.1.symm) h.2 h'.2
theorem vx{r1 r2:List (List Nat)}{ns:List Int}(h1:LtR r1 ns)(h2:LtR r2 ns):∀n,n<=ns.length->bo r1 n=bo r2 n
 | 0,_=>rfl
 | n+1,h=>by
  have e:brk r1 n=brk r2 n:=by
   unfold brk;rw[h1 n (n - 1) ⋯ ⋯,h2 n (n - 1) ⋯ ⋯]
  rw[bo,bo,e,vx h1 h2 n ⋯]
theorem xT{r1 r2:List (List Nat)}{ns:List Int}(h1:LtR r1 ns)(h2:LtR r2 ns)(l1:r1.length=ns.length)(l2:r2.length=ns.length):g9 r1=g9 r2:=by
 unfold g9;rw[l1,l2,vx h1 h2 _ (GF _)]
theorem mw{H:Hp}{x:Addr}{zs:List V}(t:Tape H p)(hx:H x=some (.tup zs)):x≠p:=by
 obtain⟨a,b,c,h9,_⟩:=t;exact dU hx h9 (by intro c;cases c)
def Kp(t:Ad)(p:Addr)(H H':Hp):Prop:=∀b o,b≠t.pt->b≠p->H b=some o->H' b=some o
theorem Kp.trans{t:Ad}{H:Hp}(a:Kp t p H H1)(b:Kp t p H1 H2):Kp t p H H2:=λc o n m h=>b c o n m (a c o n m h)
theorem eC{t:Ad}{H:Hp}(a:Same H H1):Kp t p H H1:=λ_ _ _ _ h=>a _ _ h
theorem j8{t:Ad}{H:Hp}(a:Stp p H H1):Kp t p H H1:=λc o _ m h=>a.keep c o h m
theorem xU{t:Ad}{H:Hp}(a:SameX t.pt H H1):Kp t p H H1:=λc o n _ h=>a c o n h
def KPair(p:Addr)(H:Hp)(q l:Addr)(k:Kd):Prop:=∃us:List V,H q=some (.tup [.str k.name,.ref l])/\H l=some (.lst us)/\l≠p/\KAt H k us
theorem KPair.kp{t:Ad}{H:Hp}{k:Kd}(h:KPair p H q l k)(s:Kp t p H H1)(T:pD t.pt H)(tp:Tape H p):KPair p H1 q l k:=by
 obtain⟨us,h1,h2,h3,h4⟩:=h;refine⟨us,s _ _ (T.neT h1) (mw tp h1) h1,s _ _ (T.ne h2) h3 h2,h3,?_⟩;cases k with
 | nu ns=>exact h4
 | te zs=>exact h4
 | pa tb=>
  obtain⟨qs,e,a,b⟩:=h4;exact⟨qs,e,a,λi r z e1 e2=>s _ _ (T.neT (b i r z e1 e2)) (mw tp (b i r z e1 e2)) (b i r z e1 e2)⟩
theorem KPair.same{p q l:Addr}{H H1:Hp}{k:Kd}(h:KPair p H q l k)(s:Same H H1):KPair p H1 q l k:=by
 obtain⟨us,h1,h2,h3,h4⟩:=h;exact⟨us,s _ _ h1,s _ _ h2,h3,h4.same s⟩
theorem KPair.own{x:Addr}{H:Hp}{k:Kd}(h:KPair p H q l k)(hx:H x=some (.lst xs))(hn:l≠x):KPair p (upd H x (.lst ys)) q l k:=by
 obtain⟨us,h1,h2,h3,h4⟩:=h;have tp:∀c zs,H c=some (.tup zs)->(upd H x (.lst ys)) c=some (.tup zs):=λc zs e=>by rw[ai (dU e hx (by intro z;cases z))];exact e
 refine⟨us,tp _ _ h1,by rw[ai hn];exact h2,h3,?_⟩;cases k with
 | nu ns=>exact h4
 | te zs=>exact h4
 | pa tb=>
  obtain⟨qs,e,a,b⟩:=h4;exact⟨qs,e,a,λi r z e1 e2=>tp _ _ (b i r z e1 e2)⟩
def AI(ns:List Int):Prop:=ns.length<=12/\∀x∈ns,-(25*10 ^ 16)<=x/\x<=25*10 ^ 16
theorem CU{ns:List Int}{m:Int}(hn:∀x∈ns,m<=x/\x - m<26 ^ 14)(hl:ns.length<=60):wc ns (.te (ns.map λx=>txN (x - m).toNat 14)):=by
 refine⟨⟨by rw[GA];exact hl,λz hz=>?_⟩,GA ..,λb rss w by' _ h=>AF hn h.1.1 h.1.2.2⟩;obtain⟨x,_,rfl⟩:=GX.mp hz;unfold txN;refine⟨by simp[Lx,mo],λc hc=>?_⟩;obtain⟨d,hd,rfl⟩:=GX.mp (by simpa using hc);have:=yJ (b:=26) (by decide) d hd;lia
def E5(K:GC):Sp:=λvs H Q _=>∃(p a:Addr) (ns:List Int),vs=[.ref p,.ref a]/\Tape H p/\H a=some (.lst (ns.map PR))/\a≠p/\AI ns/\
 ∀(l q1 q2 q3 q4 l1 l2 l3 l4:Addr) (m:Int) (tb:List (Int×Nat)) (kt:Kd) H',Stp p H H'->H l=none->H' l=some (.lst [.ref q1,.ref q2,.ref q3,.ref q4])->KPair p H' q1 l1 (.nu (ns.map (· - m)))->KPair p H' q2 l2 (.pa (ns.map λn=>(n,1)))->KPair p H' q3 l3 (.pa tb)->KPair p H' q4 l4 kt->wc ns (.nu (ns.map (· - m)))->wc ns (.pa (ns.map λn=>(n,1)))->wc ns (.pa tb)->wc ns kt->Q (.ref l) H'
theorem vy (T:Tx K mg t):FnOk P t.wd K mg t.bs CX0 2 t.mQ t.mK ["_law_tape_here","_law_keys_here"] (E5 K):=by
 refine T.qO.okQ sc_others (λvs H Q E h=>?_) (λcdv A outer s H vs Q E hr h=>?_)
 ·obtain⟨p,a,ns,rfl,_⟩:=h
  rfl
 ·obtain⟨p,a,ns,rfl,hT,ta,hap,⟨hn,hb⟩,k⟩:=h
  refine⟨_,(ad (ar (i:=2) sc_others.nd rfl (Iu rfl) (ap (oT (K:=K) rfl) (by rfl) T.mS li (ag (ax zF (qv 1) (ba (ag af ac))) ac)))
   (ad (ar (i:=3) sc_others.nd rfl (Iu rfl) (ax ca af (ak (bz T) (hr.mono (by decide)) rfl T.bZ T.bV.kp T.bY ay (ag (qv 0) (ag af ac)))))
   (ad (ar (i:=4) sc_others.nd rfl (GI rfl) (ba (ag (aT (ag bX (ag (aN (N:=["_law_key_here","_law_least"]) (tgs:=["_law_key_here"]) (frs:=["_law_least"]) (ix:=[2]) ⟨rfl,by decide +kernel,rfl,by decide +kernel,rfl,rfl,⟨⟨rfl,rfl,_,rfl,rfl⟩,GL⟩,⟨rfl,GL⟩,rfl⟩ rfl (aE (K:=K) (qv 1)) (λ_ _ _ _=>(ah (i:=0) (by show G4 (["_law_key_here","_law_least"]:List Str);decide +kernel) rfl (GI rfl))) (λ_ _ _ _=>(ax cK (qv 0) (qv 1)))) ac))) (ag (aT (ag bX (ag (aN (N:=["_law_key_here"]) (tgs:=["_law_key_here"]) (frs:=[]) (ix:=[]) ⟨rfl,by decide +kernel,rfl,by decide +kernel,rfl,rfl,GL,GL,rfl⟩ rfl (aE (K:=K) (qv 1)) (λ_ _ _ _=>(ah (i:=0) (by show G4 (["_law_key_here"]:List Str);decide +kernel) rfl (GI rfl))) (λ_ _ _ _=>(aT (ag (qv 0) (ag af ac))))) ac))) ac))))
   (ad (bx (be (K:=K) (qv 4) (ag (aT (ag bX (ag (aN (N:=["_law_key_here","_law_bottom"]) (tgs:=["_law_key_here"]) (frs:=["_law_bottom"]) (ix:=[3]) ⟨rfl,by decide +kernel,rfl,by decide +kernel,rfl,rfl,⟨⟨rfl,rfl,_,rfl,rfl⟩,GL⟩,⟨rfl,GL⟩,rfl⟩ rfl (aE (K:=K) (qv 1)) (λ_ _ _ _=>(ah (i:=0) (by show G4 (["_law_key_here","_law_bottom"]:List Str);decide +kernel) rfl (GI rfl))) (λ_ _ _ _=>(ak (vq T) (hr.mono (by decide)) rfl T.x8 T.qL.kp T.xW ay (ag (qv 0) (ag (qv 1) ac))))) ac))) ac)))
   (ad (bx (be (K:=K) (qv 4) (ag (aT (ag bX (ag (aN (N:=["_law_key_here","_law_least"]) (tgs:=["_law_key_here"]) (frs:=["_law_least"]) (ix:=[2]) ⟨rfl,by decide +kernel,rfl,by decide +kernel,rfl,rfl,⟨⟨rfl,rfl,_,rfl,rfl⟩,GL⟩,⟨rfl,GL⟩,rfl⟩ rfl (aE (K:=K) (qv 1)) (λ_ _ _ _=>(ah (i:=0) (by show G4 (["_law_key_here","_law_least"]:List Str);decide +kernel) rfl (GI rfl))) (λ_ _ _ _=>(ak (rW T) (hr.mono (by decide)) rfl T.vW T.og.kp T.vH ay (ag (ax cK (qv 0) (qv 1)) (ag af ac))))) ac))) ac)))
   (aj (au (qv 4)))))))),?_⟩
  rw[show L2.start ["_law_tape_here","_law_keys_here","_law_least","_law_bottom","_law_found"] [PY p,PY a]=[some (PY p),some (PY a),none,none,none]from rfl];nofun;refine⟨az (by simp),λz hz=>?_⟩;have s1:=(PV H).new (o:=.lst [PR 0]) hz;have tz:(upd H z (.lst [PR 0])) z=some (.lst [PR 0]):=aa;generalize upd H z (.lst [PR 0])=H1 at s1 tz;nofun;refine⟨a,z,_,_,rfl,rfl,s1 _ _ ta,tz,az (by simp;lia),λc hc=>?_⟩;have s2:=s1.new (o:=.lst (ns.map PR++[PR 0])) hc;have tc:(upd H1 c (.lst (ns.map PR++[PR 0]))) c=some (.lst ((ns++[0]).map PR)):=by rw[aa,GM];rfl
  generalize upd H1 c (.lst (ns.map PR++[PR 0]))=H2 at s2 tc;nofun;refine oU (.inl (PP tc)) (by simp) λm hm1 hm2=>?_
  have hm0:m<=0:=hm2 0 (by simp);have hml:-(25*10 ^ 16)<=m:=by
   rcases G9.mp hm1 with g|g
   ·exact(hb m g).1
   ·rw[G1.mp g];decide
  have hmn:∀x∈ns,m<=x:=λx hx=>hm2 x (HL _ hx)
  have S2:Stp p H H2:=(Stp.refl hT).same s2;nofun;refine⟨p,59,rfl,S2.tape,by decide,by decide,λr H3 r0 r1 S3=>?_⟩;have S3:=S2.trans S3;have ta3:=S3.keep a _ ta hap;obtain⟨B,hB,hB1,hB2⟩:∃B:Nat,(2:Int)+r=(B:Nat)/\1<=B/\B<=60:=⟨(2+r).toNat,by lia,by lia,by lia⟩
  nofun;rw[hB];refine⟨a,rfl,⟨_,PP ta3⟩,aF (a:=a) (vs:=ns.map PR) (λi ys σ H'=>H3=H'/\ys=((ns.map (· - m)).map PR).take i/\i<=ns.length/\∃v,σ=[v,some (PR m)]) (by rw[GA];exact am ⋯) (λi ys σ H' h=>by rw[h.2.1,G5,GA,GA];lia) (λi ys σ H' h=>by rw[<-h.1];exact PP ta3) ⟨rfl,rfl,GR _,none,rfl⟩ ?_ ?_⟩
  ·rintro i ys σ H' x hx ⟨rfl,rfl,_,v,rfl⟩
   have hil:=aI hx;obtain⟨y,rfl,hy,_,hi⟩:=aA hx;nofun;exact PX hil ⟨rfl,by rw[GS,GE,GE,hy];rfl,hi,_,rfl⟩
  rintro ys σ H' ⟨rfl,rfl,_,v,rfl⟩ l1 hl1;rw[GA,GJ (by rw[GA,GA];exact GF _)];have S4:=S3.new (o:=.lst ((ns.map (· - m)).map PR)) hl1;have tl1:(upd H3 l1 (.lst ((ns.map (· - m)).map PR))) l1=some (.lst ((ns.map (· - m)).map PR)):=aa;have n1:l1≠p:=S3.tape.ne hl1;generalize upd H3 l1 (.lst ((ns.map (· - m)).map PR))=H4 at S4 tl1;nofun;refine⟨az (by simp),λq1 hq1=>?_⟩;have nq1:q1≠p:=S4.tape.ne hq1;have S5:=S4.new (o:=.tup [PU "number",PY l1]) hq1;have K1:KPair p (upd H4 q1 (.tup [PU "number",PY l1])) q1 l1 (.nu (ns.map (· - m))):=⟨_,aa,by rw[ai (ae tl1 hq1)];exact tl1,n1,rfl⟩;generalize upd H4 q1 (.tup [PU "number",PY l1])=H5 at S5 K1;have ta5:=S5.keep a _ ta hap;nofun;refine⟨a,rfl,⟨_,PP ta5⟩,aF (a:=a) (vs:=ns.map PR) (λi ys σ H'=>Same H5 H'/\(∃qs:List Addr,ys=qs.map PY/\qs.length=i/\i<=ns.length/\PartsT H' qs ((ns.map λn=>(n,1)).take i))/\∃v,σ=[v]) (by rw[GA];exact am ⋯) (λi ys σ H' h=>by obtain⟨_,⟨qs,rfl,e,_⟩,_⟩:=h;rw[GA,e]) (λi ys σ H' h=>PP (h.1 _ _ ta5)) ⟨PV _,⟨[],rfl,rfl,GR _,rfl,λi q z h=>by simp at h⟩,none,rfl⟩ ?_ ?_⟩
  ·rintro i ys σ H' x hx ⟨s6,⟨qs,rfl,hql,_,hP⟩,v,rfl⟩
   have hil:=aI hx;obtain⟨y,rfl,hy,_,hi⟩:=aA hx;nofun;refine⟨az (by simp),λq hq=>?_⟩;have et:(ns.map λn=>(n,1)).take (i+1)=(ns.map λn=>(n,1)).take i++[(y,1)]:=by rw[GS,GE,hy];rfl
   refine PX hil ⟨s6.new hq,⟨qs++[q],by rw[GM];rfl,by simp[hql],hi,?_⟩,_,rfl⟩;rw[et];exact(hP.same ((PV _).new hq)).snoc aa
  rintro ys σ H6 ⟨s6,⟨qs,rfl,hql,_,hP⟩,v,rfl⟩ l2 hl2;rw[GA]at hP;rw[GJ (by rw[GA];exact GF _)]at hP;have S6:=S5.same s6;have n2:l2≠p:=S6.tape.ne hl2;have s7:=s6.new (o:=.lst (qs.map PY)) hl2;have tl2:(upd H6 l2 (.lst (qs.map PY))) l2=some (.lst (qs.map PY)):=aa;have hP:=hP.same ((PV H6).new (o:=.lst (qs.map PY)) hl2);generalize upd H6 l2 (.lst (qs.map PY))=H7 at s7 tl2 hP;nofun;refine⟨az (by simp),λq2 hq2=>?_⟩;have s8:=s7.new (o:=.tup [PU "part",PY l2]) hq2;have K2:KPair p (upd H7 q2 (.tup [PU "part",PY l2])) q2 l2 (.pa (ns.map λn=>(n,1))):=⟨_,aa,by rw[ai (ae tl2 hq2)];exact tl2,n2,qs,rfl,hP.same ((PV _).new hq2)⟩;generalize upd H7 q2 (.tup [PU "part",PY l2])=H8 at s8 K2;have K1:=K1.same s8;nofun;refine⟨az (by simp),λl hl=>?_⟩;have S8:=S5.same s8;have hlp:l≠p:=S8.tape.ne hl;have e1l:l1≠l:=by obtain⟨_,_,h,_⟩:=K1;exact ae h hl
  have e2l:l2≠l:=by obtain⟨_,_,h,_⟩:=K2;exact ae h hl
  have hln:H l=none:=S8.free hl;have sl:=(PV H8).new (o:=.lst [PY q1,PY q2]) hl;have S9:=S8.same sl;have K1:=K1.same sl;have K2:=K2.same sl;have tl9:(upd H8 l (.lst [PY q1,PY q2])) l=some (.lst [PY q1,PY q2]):=aa;generalize upd H8 l (.lst [PY q1,PY q2])=H9 at S9 K1 K2 tl9;nofun;refine⟨aX tl9,?_⟩;have ta9:=S9.keep a _ ta hap;nofun;refine⟨a,rfl,⟨_,PP ta9⟩,aF (a:=a) (vs:=ns.map PR) (λi ys σ H'=>Same H9 H'/\(∃(qs:List Addr) (tb:List (Int×Nat)),ys=qs.map PY/\qs.length=i/\i<=ns.length/\PartsT H' qs tb/\(∀z∈tb,1<=z.2/\z.2<=60)/\(∀z∈tb,-(10 ^ 18)<z.1/\z.1<10 ^ 18)/\∀(j:Nat) z n,tb[j]? = some z->ns[j]? = some n->∃g:Nat,0<g/\z.1*(g:Int)=n/\z.2*g=B)/\∃v,σ=[v,some (PR B)]) (by rw[GA];exact am ⋯) (λi ys σ H' h=>by obtain⟨_,⟨qs,tb,rfl,e,_⟩,_⟩:=h;rw[GA,e]) (λi ys σ H' h=>PP (h.1 _ _ ta9)) ⟨PV _,⟨[],[],rfl,rfl,GR _,⟨rfl,λi q z h=>by simp at h⟩,(λz h=>nomatch h),(λz h=>nomatch h),λj z n h=>by simp at h⟩,none,rfl⟩ ?_ ?_⟩
  ·rintro i ys σ H' x hx ⟨sA,⟨qs,tb,rfl,hql,_,hP,hb1,hb2,hE⟩,v,rfl⟩
   have hil:=aI hx;obtain⟨y,rfl,hy,hym,hi⟩:=aA hx;have hyb:=hb y hym;nofun;refine⟨y,B,rfl,hB1,hB2,by lia,by lia,λq t' c' g hg e1 e2 hq=>?_⟩;have htl:tb.length=i:=by rw[<-hP.1];exact hql
   have hc1:1<=c':=by
    rcases J8 c' with z|z
    ·rw[z,Nat.zero_mul]at e2;lia
    ·exact z
   have hc2:c'<=60:=by have:=Nat.le_mul_of_pos_right c' hg;lia
   have ht:-(10 ^ 18)<t'/\t'<10 ^ 18:=by
    have hg':(1:Int)<=(g:Int):=by lia
    constructor
    ·rcases O1 t' 0 with z|z
     ·have:=Int.mul_le_mul_of_nonpos_left (show t'<=0 by lia) hg'
      rw[e1]at this;lia
     ·lia
    ·rcases O1 t' 0 with z|z
     ·lia
     ·have:=Int.mul_le_mul_of_nonneg_left hg' z
      rw[e1]at this;lia
   refine PX hil ⟨sA.new hq,⟨qs++[q],tb++[(t',c')],by rw[GM];rfl,by simp[hql],hi,(hP.same ((PV _).new hq)).snoc aa,λz hz=>?_,λz hz=>?_,λj z n f1 f2=>?_⟩,_,rfl⟩
   ·rcases G9.mp hz with u|u
    ·exact hb1 z u
    ·rw[G1.mp u];exact⟨hc1,hc2⟩
   ·rcases G9.mp hz with u|u
    ·exact hb2 z u
    ·rw[G1.mp u];exact ht
   ·rcases aG f1 with⟨l',f1⟩|⟨l',f1⟩
    ·exact hE j z n f1 f2
    ·rw[l',htl,hy]at f2
     cases f2;rw[f1];exact⟨g,hg,e1,e2⟩
  rintro ys σ HA ⟨sA,⟨qs3,tb,rfl,hql3,_,hP3,hb1,hb2,hE⟩,v,rfl⟩ l3 hl3;rw[GA]at hql3;have SA:=S9.same sA;have n3:l3≠p:=SA.tape.ne hl3;have sB:=sA.new (o:=.lst (qs3.map PY)) hl3;have tl3:(upd HA l3 (.lst (qs3.map PY))) l3=some (.lst (qs3.map PY)):=aa;have hP3:=hP3.same ((PV HA).new (o:=.lst (qs3.map PY)) hl3);generalize upd HA l3 (.lst (qs3.map PY))=HB at sB tl3 hP3;nofun;refine⟨az (by simp),λq3 hq3=>?_⟩;have sC:=sB.new (o:=.tup [PU "part",PY l3]) hq3;have K3:KPair p (upd HB q3 (.tup [PU "part",PY l3])) q3 l3 (.pa tb):=⟨_,aa,by rw[ai (ae tl3 hq3)];exact tl3,n3,qs3,rfl,hP3.same ((PV _).new hq3)⟩;generalize upd HB q3 (.tup [PU "part",PY l3])=HC at sC K3;have K1:=K1.same sC;have K2:=K2.same sC;have SC:=S9.same sC;have tlC:=sC _ _ tl9;nofun;refine aL tlC (by simp;exact am (by decide)) ?_;have e3l:l3≠l:=(ae (sA _ _ tl9) hl3).symm;have SD:=SC.own (o:=.lst ([PY q1,PY q2]++[PY q3])) hln hlp;have tlD:(upd HC l (.lst ([PY q1,PY q2]++[PY q3]))) l=some (.lst [PY q1,PY q2,PY q3]):=aa;have K1:=K1.own (ys:=[PY q1,PY q2]++[PY q3]) tlC e1l;have K2:=K2.own (ys:=[PY q1,PY q2]++[PY q3]) tlC e2l;have K3:=K3.own (ys:=[PY q1,PY q2]++[PY q3]) tlC e3l;generalize upd HC l (.lst ([PY q1,PY q2]++[PY q3]))=HD at SD tlD K1 K2 K3;have taD:=SD.keep a _ ta hap;nofun;refine⟨aX tlD,?_⟩;nofun;refine⟨a,rfl,⟨_,PP taD⟩,aF (a:=a) (vs:=ns.map PR) (λi ys σ H'=>HD=H'/\ys=((ns.map λx=>txN (x - m).toNat 14).map PU).take i/\i<=ns.length/\∃v,σ=[v,some (PR m)]) (by rw[GA];exact am ⋯) (λi ys σ H' h=>by rw[h.2.1,G5,GA,GA];lia) (λi ys σ H' h=>by rw[<-h.1];exact PP taD) ⟨rfl,rfl,GR _,none,rfl⟩ ?_ ?_⟩
  ·rintro i ys σ H' x hx ⟨rfl,rfl,_,v,rfl⟩
   have hil:=aI hx;obtain⟨y,rfl,hy,hym,hi⟩:=aA hx;have:=hmn y hym;nofun;refine⟨(y - m).toNat,by rw[Jr ⋯];rfl,?_⟩;exact PX hil ⟨rfl,by rw[GS,GE,GE,hy];rfl,hi,_,rfl⟩
  rintro ys σ H' ⟨rfl,rfl,_,v,rfl⟩ l4 hl4;rw[GA,GJ (by rw[GA,GA];exact GF _)];have hD4:wc ns (.te (ns.map λx=>txN (x - m).toNat 14)):=CU (λx hx=>⟨hmn x hx,by have:=hb x hx;lia⟩) ⋯;have n4:l4≠p:=SD.tape.ne hl4;have e4l:l4≠l:=(ae tlD hl4).symm;generalize (ns.map λx=>txN (x - m).toNat 14)=xs4 at hD4;have sE:=(PV HD).new (o:=.lst (xs4.map PU)) hl4;have tl4:(upd HD l4 (.lst (xs4.map PU))) l4=some (.lst (xs4.map PU)):=aa;generalize upd HD l4 (.lst (xs4.map PU))=HE at sE tl4;nofun;refine⟨az (by simp),λq4 hq4=>?_⟩;have sF:=sE.new (o:=.tup [PU "text",PY l4]) hq4;have K4:KPair p (upd HE q4 (.tup [PU "text",PY l4])) q4 l4 (.te xs4):=⟨_,aa,by rw[ai (ae tl4 hq4)];exact tl4,n4,rfl⟩;generalize upd HE q4 (.tup [PU "text",PY l4])=HF at sF K4;have tlF:=sF _ _ tlD;nofun;refine aL tlF (by simp;exact am (by decide)) ?_;have SG:=(SD.same sF).own (o:=.lst ([PY q1,PY q2,PY q3]++[PY q4])) hln hlp;have tlG:(upd HF l (.lst ([PY q1,PY q2,PY q3]++[PY q4]))) l=some (.lst [PY q1,PY q2,PY q3,PY q4]):=aa;have K1:=(K1.same sF).own (ys:=[PY q1,PY q2,PY q3]++[PY q4]) tlF e1l;have K2:=(K2.same sF).own (ys:=[PY q1,PY q2,PY q3]++[PY q4]) tlF e2l;have K3:=(K3.same sF).own (ys:=[PY q1,PY q2,PY q3]++[PY q4]) tlF e3l;have K4:=K4.own (ys:=[PY q1,PY q2,PY q3]++[PY q4]) tlF e4l;generalize upd HF l (.lst ([PY q1,PY q2,PY q3]++[PY q4]))=HG at SG tlG K1 K2 K3 K4;have hl3':tb.length=ns.length:=by rw[<-hP3.1];exact hql3
  nofun;refine k l q1 q2 q3 q4 l1 l2 l3 l4 m tb _ HG SG hln tlG K1 K2 K3 K4 (yK ⟨by rw[GA];lia,λx hx=>?_⟩ (xS ns m)) (yL ⟨by rw[GA];lia,λz hz=>?_,λz hz=>?_⟩ (by rw[j7];exact⟨rfl,λ_ _ _ _=>rfl⟩)) (yL ⟨by lia,hb1,hb2⟩ (vv ⋯ hl3' hb1 hE)) hD4
  ·obtain⟨y,hy,rfl⟩:=GX.mp hx
   have:=hb y hy;have:=hmn y hy;lia
  ·obtain⟨y,hy,rfl⟩:=GX.mp hz
   exact⟨GF _,show 1<=60 by decide⟩
  ·obtain⟨y,hy,rfl⟩:=GX.mp hz
   have:=hb y hy;show -(10 ^ 18)<y/\y<10 ^ 18
   lia
theorem AJ{pt:Addr}{H:Hp}(e:SameX pt H H')(T:pD pt H')(h:H' l=none):H l=none:=by
 cases q:H l with
 | none=>rfl
 | some o=>
  by_cases hd:l=pt
  ·rcases T with z|⟨c,z,_⟩<;>rw[<-hd,h]at z<;>cases z
  ·rw[e l o hd q]at h;cases h
theorem CV{pt:Addr}{K:GC}{H:Hp}(T:pD pt H)(e:SameX pt H H')(h:SqL K H a xs):SqL K H' a xs:=by
 rcases h with(h|⟨o,h⟩)|h
 ·exact .inl (.inl (e _ _ (T.ne h) h))
 ·refine .inl (.inr ⟨o,e _ _ (λz=>?_) h⟩)
  subst z;rcases T with z|⟨c,z,_⟩<;>rw[h]at z<;>cases z
 ·exact .inr h
theorem qJ{H:Hp}{x:Addr}(t:Tape H p)(hx:H x=some (.lst (qs.map PY))):x≠p:=λe=>by
 obtain⟨a,b,c,h9,_⟩:=t;rw[e,h9]at hx;cases qs with
 | nil=>cases hx
 | cons q r=>cases hx
theorem mx{pt:Addr}{H:Hp}(T:pD pt H)(u:Tape H p)(S:Stp p H H1):pD pt H1:=by
 obtain⟨a,b,c,h9,_⟩:=u;rcases T with z|⟨c,z,u⟩
 ·exact .inl (S.keep _ _ z (dU z h9 (by intro c;cases c)))
 ·exact .inr ⟨c,S.keep _ _ z (dU z h9 (by intro c;cases c)),S.keep _ _ u (dU u h9 (by intro c;cases c))⟩
theorem yM{H:Hp}{n:Nat}:∀{xs ys:List V},xs.length=ys.length->(∀(i:Nat) u v,xs[i]? = some u->ys[i]? = some v->∃d,DatE n H u d/\DatE n H v d)->∃ds:List PyData,ds.length=xs.length/\(∀(i:Nat) u e,xs[i]? = some u->ds[i]? = some e->DatE n H u e)/\∀(i:Nat) v e,ys[i]? = some v->ds[i]? = some e->DatE n H v e
 | [],[],_,_=>⟨[],rfl,λi u e h=>by simp at h,λi u e h=>by simp at h⟩
 | x::xs,y::ys,hl,h=>by
  obtain⟨d,h1,h2⟩:=h 0 x y rfl rfl;obtain⟨ds,e1,e2,e3⟩:=yM (xs:=xs) (ys:=ys) (by simpa using hl) λi u v a b=>h (i+1) u v (by simpa using a) (by simpa using b)
  refine⟨d::ds,by simp[e1],λi u e a b=>?_,λi u e a b=>?_⟩
  ·cases i with
   | zero=>cases a;cases b;exact h1
   | succ i=>exact e2 i u e (by simpa using a) (by simpa using b)
  ·cases i with
   | zero=>cases a;cases b;exact h2
   | succ i=>exact e3 i u e (by simpa using a) (by simpa using b)
theorem my{H:Hp}{b:Addr}(ha:H a=some (.lst xs))(hb:H b=some (.lst ys))(hl:xs.length=ys.length)(h:∀(i:Nat) u v,xs[i]? = some u->ys[i]? = some v->∃d,DatE n H u d/\DatE n H v d):∃d,DatE (n+1) H (.ref a) d/\DatE (n+1) H (.ref b) d:=by
 obtain⟨ds,e1,e2,e3⟩:=yM hl h;exact⟨.list ds,DatE.lst ha e1.symm e2,DatE.lst hb ⋯ e3⟩
theorem mz{H:Hp}{is:List Int}(h:H a=some (.tup (is.map PR))):DatE 1 H (.ref a) (.tuple (is.map PyData.int)):=DatE.tup h (by simp) λi u e a b=>by
 rw[GE]at a b;cases q:is[i]? with
 | none=>rw[q]at a;cases a
 | some z=>rw[q]at a b;cases a;cases b;exact DatE.int _
theorem n8{H:Hp}{b:Addr}{is:List Int}(ha:H a=some (.lst (is.map PR)))(hb:H b=some (.lst (is.map PR))):∃d,DatE 1 H (.ref a) d/\DatE 1 H (.ref b) d:=my ha hb rfl λi u v e1 e2=>by
 rw[e1]at e2;cases e2;rw[GE]at e1;cases q:is[i]? with
 | none=>rw[q]at e1;cases e1
 | some z=>rw[q]at e1;cases e1;exact⟨_,DatE.int _,DatE.int _⟩
theorem vz{H:Hp}{b:Addr}(ha:H a=some (.lst (ps.map PY)))(hb:H b=some (.lst (qs.map PY)))(hP:RowsT H ps rss)(hQ:RowsT H qs rss):∃d,DatE 2 H (.ref a) d/\DatE 2 H (.ref b) d:=my ha hb (by rw[GA,GA,hP.1,hQ.1]) λi u v e1 e2=>by
 obtain⟨p,rfl,hp,_,hi⟩:=aA e1;obtain⟨q,rfl,hq,_,_⟩:=aA e2;have er:=Gz (l:=rss) (i:=i) (by rw[<-hP.1];exact hi);have h1:=hP.2 i p _ hp er;have h2:=hQ.2 i q _ hq er;rw[bM]at h1 h2;exact⟨_,mz h1,mz h2⟩
theorem vA{pt:Addr}{H:Hp}(t:Tape H p)(T:pD pt H)(s:SameX pt H H1):Tape H1 p:=by
 obtain⟨a,b,c,h,r⟩:=t;exact⟨a,b,c,s _ _ (T.ne h) h,r⟩
theorem AK{H:Hp}{k:Kd}{us:List V}{z:V}(h:KAt H k us)(hk:k.ok)(hz:z∈us)(e:ThE H z y):∃d,DatE 1 H y d/\DatE 1 H z d:=by
 cases k with
 | nu ns=>
  obtain rfl:us=ns.map PR:=h;obtain⟨x,_,rfl⟩:=GX.mp hz;rcases e with⟨_,rfl⟩|⟨_,_,_,e,_⟩
  ·exact⟨_,DatE.int _,DatE.int _⟩
  ·cases e
 | te zs=>
  obtain rfl:us=zs.map PU:=h;obtain⟨x,hx,rfl⟩:=GX.mp hz;have ok:LW x=true:=by
   unfold LW;rw[<-Array.all_toList,Jl];intro c hc;have:=(hk.2 x hx).2 c hc;exact decide_eq_true ⋯
  rcases e with⟨_,rfl⟩|⟨_,_,_,e,_⟩
  ·exact⟨_,DatE.str ok,DatE.str ok⟩
  ·cases e
 | pa tb=>
  obtain⟨qs,rfl,hP⟩:=h;obtain⟨q,hq,rfl⟩:=GX.mp hz;obtain⟨i,hi,rfl⟩:=IP hq;have g:=hP.2 i qs[i] (tb[i]'(by rw[<-hP.1];exact hi)) (Gz hi) (Gz _);rcases e with⟨e,_⟩|⟨t,u,xs,e1,e2,e3,e4,_⟩
  ·rcases e with e|⟨_,e⟩|⟨_,e⟩|⟨_,e⟩<;>cases e
  ·cases e1
   rw[g]at e3;cases e3;subst e2;exact⟨_,mz (is:=[_,_]) e4,mz (is:=[_,_]) g⟩
structure LawAt (t:Ad) (p:Addr) (H:Hp) (kl rl ol:Addr) (ns:List Int) (ps:List Addr) (rss:List (List Nat)) (os:List Nat):Prop where
 tape:Tape H p
 tab:pD t.pt H
 key:H kl=some (.lst (ns.map PR))
 klp:kl≠p
 ord:H ol=some (.lst (NV os))
 olp:ol≠p
 rr:H rl=some (.lst (ps.map PY))
 rows:RowsT H ps rss
theorem LawAt.kp{t:Ad}{H:Hp}{kl rl ol:Addr}{ns:List Int}{os:List Nat}(h:LawAt t p H kl rl ol ns ps rss os)(s:Kp t p H H1)(T:pD t.pt H1)(tp:Tape H1 p):LawAt t p H1 kl rl ol ns ps rss os:=by
 obtain⟨a,b,c,d,e,f,g,j,k⟩:=h;exact⟨tp,T,s _ _ (b.ne c) d c,d,s _ _ (b.ne e) f e,f,s _ _ (b.ne g) (qJ a g) g,j,λm r z e1 e2=>s _ _ (b.neT (k m r z e1 e2)) (mw a (k m r z e1 e2)) (k m r z e1 e2)⟩
theorem LawAt.same{t:Ad}{p:Addr}{H H1:Hp}{kl rl ol:Addr}{ns:List Int}{ps:List Addr}{rss:List (List Nat)}{os:List Nat}(h:LawAt t p H kl rl ol ns ps rss os)(s:Same H H1):LawAt t p H1 kl rl ol ns ps rss os:=h.kp (eC s) (h.tab.same s) (h.tape.same s)
def AllP(p:Addr)(H:Hp)(qs:List Addr)(ns:List Int):Prop:=∀q∈qs,∃l k,KPair p H q l k/\wc ns k
theorem AllP.kp{t:Ad}{p:Addr}{H H1:Hp}{qs:List Addr}{ns:List Int}(h:AllP p H qs ns)(s:Kp t p H H1)(T:pD t.pt H)(tp:Tape H p):AllP p H1 qs ns:=λq hq=>by
 obtain⟨l,k,a,b⟩:=h q hq;exact⟨l,k,a.kp s T tp,b⟩
theorem CW{td ty:TE}{σ:L2.St}{H:Hp}{Q:VK}(h:td σ H λx H1=>ty σ H1 λy H2=>∃a v,x=.ref a/\DGet H2 a y (some v)/\Q v H2):zV td ty σ H Q:=h
theorem qK {K:GC}{H:Hp}{Q:VK}{n1 n2 n3:Int}(h:MvL H l n1 n2 n3) (k:∀d H',Same H H'->DGet H' d (.str "runs") (some (.int n3))->Q (.ref d) H'):yF K [.ref l] H Q:=by
 obtain⟨t1,t2,t3,e,e1,e2,e3⟩:=h;refine⟨l,[t1,t2,t3],[(JR "last",PR n1),(JR "first",PR n2),(JR "runs",PR n3)],rfl,e,rfl,λi p kv a b=>?_,λd hd=>k d _ ((PV H).new hd) (DGet.k (k:=JR "runs") aa)⟩
 match i,a,b with
 | 0,a,b=>cases a;cases b;exact e1
 | 1,a,b=>cases a;cases b;exact e2
 | 2,a,b=>cases a;cases b;exact e3
 | i+3,a,_=>simp at a
def xV(K:GC)(pt:Addr):Sp:=λvs H Q _=>∃(a:Addr) (ns:List Int),vs=[.ref a]/\SqL K H a (ns.map PR)/\ns.length<=63/\pD pt H/\∀H',Q (.bl true) H'
theorem CY (T:Tx K mg t):FnOk P t.wd K mg t.bs CX0 6 t.AS t.AO ["_law_script"] (xV K t.pt):=by
 refine T.E6.okQ sc_law (λvs H Q E h=>?_) (λcdv A outer s H vs Q E hr h=>?_)
 ·obtain⟨a,ns,rfl,_⟩:=h
  rfl
 ·obtain⟨a,ns,rfl,hS,hlen,hT,k⟩:=h
  refine⟨_,(ad (bC Ha rfl (bT rfl T.bn (ag (ax ca af (ap (tM rfl) (by rfl) T.mS li (ag af (ag (ap (aW (K:=K)) (by rfl) T.bv aR (ag (qv 0) ac)) ac)))) ac)) (ah (i:=1) sc_law.nd rfl (GI rfl)) (ad (ar (i:=2) sc_law.nd rfl (GI rfl) (ak (Ao T) (hr.mono (by decide)) rfl T.Da T.yP.kp T.C5 ay (ag (qv 0) (ag (qv 1) ac))))
   (ad (ar (i:=3) sc_law.nd rfl (Iu rfl) (ak (u5 T) (hr.mono (by decide)) rfl T.yS T.vB.kp T.yQ ay (ag (qv 2) ac)))
   (ad (io (i:=4) (N:=["_law_key_here"]) (tgs:=["_law_key_here"]) (frs:=[]) (ix:=[])  sc_law.nd rfl (GI rfl) ⟨rfl,by decide +kernel,rfl,by decide +kernel,rfl,rfl,GL,GL,rfl⟩ rfl (aE (K:=K) (ak (AE T) (hr.mono (by decide)) rfl T.C8 T.yN.kp T.C3 ay (ag (qv 2) (ag (qv 3) ac)))) (λ_ _ _ _=>(ah (i:=0) (by show G4 (["_law_key_here"]:List Str);decide +kernel) rfl (GI rfl))) (λ_ _ _ _=>(ax dl (qv 0) af)))
   (ad (ar (i:=5) sc_law.nd rfl (GI rfl) (aJ (gK (K:=K)) (ak (dP T) (hr.mono (by decide)) rfl T.fN T.dQ.kp T.fD ay (ag bX (ag (qv 4) (ag (qv 3) ac)))) af))
   (ad (ar (i:=6) sc_law.nd rfl (GI rfl) (ak (g8 T) (hr.mono (by decide)) rfl T.i6 T.fA.kp T.i5 ay (ag (qv 5) ac)))
   (ad (ar (i:=7) sc_law.nd rfl (GI rfl) (ak (vy T) (hr.mono (by decide)) rfl T.yb T.qO.kp T.xZ ay (ag (qv 2) (ag (qv 4) ac))))
   (ad (bR (aD (xy hr.units) (aN (N:=["_law_kind","_law_some","_law_base_here"]) (tgs:=["_law_kind","_law_some"]) (frs:=["_law_base_here"]) (ix:=[3]) ⟨rfl,by decide +kernel,rfl,by decide +kernel,rfl,rfl,⟨⟨rfl,rfl,_,rfl,rfl⟩,GL⟩,⟨rfl,GL⟩,rfl⟩ rfl (aE (K:=K) (cJ (oS (K:=K)) (qv 7) oQ (bN af))) (λ_ _ _ _=>(bp (K:=K) (n:=2) rfl (aq (ah (i:=0) (by show G4 (["_law_kind","_law_some","_law_base_here"]:List Str);decide +kernel) rfl (GI rfl)) (aq (ah (i:=1) (by show G4 (["_law_kind","_law_some","_law_base_here"]:List Str);decide +kernel) rfl (GI rfl)) aQ)))) (λ_ _ _ _=>(aJ (gK (K:=K)) (ak (dP T) (hr.mono (by decide)) rfl T.fN T.dQ.kp T.fD ay (ag (qv 0) (ag (qv 1) (ag (qv 2) ac)))) af))) (ba (ag (qv 5) (ag (qv 5) ac))) (aK _)) (aj (au jy)) bi)
   (ad (bR (aD Es (ak (cW T) (hr.mono (by decide)) rfl T.dF T.cm.kp T.dy ay (ag (aJ (gK (K:=K)) (aJ (bg (K:=K)) (qv 7) af) af) ac)) af (aK _)) (aj (au jy)) bi)
   (ad (ar (i:=8) sc_law.nd rfl (GI rfl) (uv (oK hr) (aP (qF (K:=K) rfl) (by rfl) T.ow uY (ag (ak (fV T) (hr.mono (by decide)) rfl T.ig T.eE.kp T.ic ay (ag bX (ag (qv 4) (ag (qv 3) ac)))) ac)) bX))
   (aj (bC Ha rfl (aE (K:=K) (ax zF (ba (ag (aT (ag bX (ag (qv 4) ac))) ac)) (qv 7))) (bp (K:=K) (n:=2) rfl (aq (ah (i:=9) sc_law.nd rfl (GI rfl)) (aq (ah (i:=10) sc_law.nd rfl (Iu rfl)) aQ))) (ad (ar (i:=11) sc_law.nd rfl (GI rfl) (ak (u5 T) (hr.mono (by decide)) rfl T.yS T.vB.kp T.yQ ay (ag (qv 2) ac)))
   (ad (bR (QW.qt (lB (aD (xy hr.units) (ak (g8 T) (hr.mono (by decide)) rfl T.i6 T.fA.kp T.i5 ay (ag (aJ (gK (K:=K)) (ak (dP T) (hr.mono (by decide)) rfl T.fN T.dQ.kp T.fD ay (ag (qv 9) (ag (qv 10) (ag (qv 11) ac)))) af) ac)) (qv 6) (aK _)) (iT (aD Es (uv (oK hr) (aP (qF (K:=K) rfl) (by rfl) T.ow uY (ag (ak (fV T) (hr.mono (by decide)) rfl T.ig T.eE.kp T.ic ay (ag (qv 9) (ag (qv 10) (ag (qv 11) ac)))) ac)) bX) (qv 8) (aK _))))) (aj (au jy)) bi)
   (aj (bC Ha rfl (jA (K:=K) (aT (ag bX (ag bX (ag bX ac))))) (ah (i:=12) sc_law.nd rfl (GI rfl)) (ad (ar (i:=13) sc_law.nd rfl (GI rfl) (ak (rV T) (hr.mono (by decide)) rfl T.vV T.oe.kp T.vG ay (ag (qv 12) (ag (qv 9) (ag (qv 10) (ag (qv 11) ac))))))
   (aj (bR (QW.qt (lB (aD (xy hr.units) (aJ (gK (K:=K)) (qv 13) af) (qv 6) (aK _)) (iT (aD (xy hr.units) (aJ (gK (K:=K)) (qv 13) af) (aN (N:=["_law_place","_law_some"]) (tgs:=["_law_place"]) (frs:=["_law_some"]) (ix:=[10]) ⟨rfl,by decide +kernel,rfl,by decide +kernel,rfl,rfl,⟨⟨rfl,rfl,_,rfl,rfl⟩,GL⟩,⟨rfl,GL⟩,rfl⟩ rfl (aE (K:=K) (qv 6)) (λ_ _ _ _=>(ah (i:=0) (by show G4 (["_law_place","_law_some"]:List Str);decide +kernel) rfl (GI rfl))) (λ_ _ _ _=>(aJ (bg (K:=K)) (qv 1) (qv 0)))) (aK _))))) (aj (au jy)) bi)))))))))))))))))))
   (aj (au jy))),?_⟩
  rw[show L2.start ["_law_script","_law_k","_law_tape_here","_law_base_here","_law_keys_here","_law_rows","_law_order","_law_others_here","_law_moves","_law_kind","_law_some","_law_by","_law_way","_law_found"] [PY a]=[some (PY a),none,none,none,none,none,none,none,none,none,none,none,none,none]from rfl];nofun;refine aH hS ?_;nofun;have hml:(OW PR ns).length=ns.length:=GA ..;refine⟨_,rfl,by(repeat' split)<;>lia,by(repeat' split)<;>lia,dG (λi σ H'=>SameX t.pt H H'/\pD t.pt H'/\∃v1 v2 v3 v4 v5 v6 v7 v8 v9 v10 v11 v12 v13,σ=[some (PY a),v1,v2,v3,v4,v5,v6,v7,v8,v9,v10,v11,v12,v13]) ⟨SameX.refl _ _,hT,_,_,_,_,_,_,_,_,_,_,_,_,_,rfl⟩ ?_ ?_⟩
  ·rintro i σ H' hi ⟨sm,T0,v1,v2,v3,v4,v5,v6,v7,v8,v9,v10,v11,v12,v13,rfl⟩
   nofun;refine⟨a,ns,_,rfl,CV hT sm hS,by lia,λp H1 hp0 same T1=>?_⟩;have hpn:H p=none:=AJ sm T0 hp0;have TT1:=T0.same same;nofun;refine⟨p,rfl,T1,λb0 H2 hb0 hb1 S2=>?_⟩;obtain⟨b,rfl,hb,hb2⟩:∃b:Nat,b0=(b:Nat)/\2<=b/\b<=64:=⟨b0.toNat,by lia,by lia,by lia⟩
   have TT2:=mx TT1 T1 S2;nofun;refine⟨p,b,rfl,S2.tape,hb0,hb1,λl0 ks H3 hkl hkb S3 hl0 tl0=>?_⟩;have TT3:=mx TT2 S2.tape S3;have S13:=S2.trans S3;refine⟨l0,rfl,⟨_,PP tl0⟩,aF (a:=l0) (vs:=ks.map PR) (λi ys σ H'=>H3=H'/\ys=((ks.map (· / 4)).map PR).take i/\i<=ks.length/\∃v,σ=[v]) (by rw[GA];exact am ⋯) (λi ys σ H' h=>by rw[h.2.1,G5,GA,GA];lia) (λi ys σ H' h=>by rw[<-h.1];exact PP tl0) ⟨rfl,rfl,GR _,none,rfl⟩ ?_ ?_⟩
   ·rintro i ys σ H' x hx ⟨rfl,rfl,_,v,rfl⟩
    have hil:=aI hx;obtain⟨y,rfl,hy,_,hi⟩:=aA hx;nofun;exact PX hil ⟨rfl,by rw[GS,GE,GE,hy];rfl,hi,_,rfl⟩
   rintro ys σ H' ⟨rfl,rfl,_,v,rfl⟩ kl hkl0;rw[GA,GJ (by rw[GA,GA];exact GF _)];have hm12:(ks.map (· / 4)).length<=12:=by rw[GA];exact hkl
   have hmb:∀x∈ks.map (· / 4),-(25*10 ^ 16)<=x/\x<=25*10 ^ 16:=λx hx=>by
    obtain⟨y,hy,rfl⟩:=GX.mp hx;have:=hkb y hy;show -(25*10 ^ 16)<=y / 4/\y / 4<=25*10 ^ 16
    lia
   generalize ks.map (· / 4)=ms at hm12 hmb;have hok:(Kd.nu ms).ok:=⟨by lia,λx hx=>by have:=hmb x hx;lia⟩;have S4:=(Stp.refl S3.tape).new (o:=.lst (ms.map PR)) hkl0;have s4:=(PV H3).new (o:=.lst (ms.map PR)) hkl0;have klp:kl≠p:=S3.tape.ne hkl0;have tkl:(upd H3 kl (.lst (ms.map PR))) kl=some (.lst (ms.map PR)):=aa;have TT4:=TT3.same s4;generalize upd H3 kl (.lst (ms.map PR))=H4 at S4 s4 tkl TT4;nofun;refine⟨.nu ms,_,kl,b,rfl,.inl tkl,rfl,hok,hb,hb2,λp3 rl ps rss w by' H5 s5 t3 trl hR hr=>?_⟩;have TT5:=TT4.same s5;have hrl:rss.length=ms.length:=(hr.good hok hb hb2).2.1;have hG:=(hr.good hok hb hb2).1;nofun;refine⟨rl,ps,rss,w,rfl,⟨trl,trivial⟩,hR.toU,λr hr=>(hG r hr).1,by lia,TT5,λol os H6 hol s6 TT6 tol hP hPw=>?_⟩;have M6:Kp t p H H6:=(xU sm).trans ((eC same).trans ((j8 S13).trans ((eC s4).trans ((eC s5).trans (xU s6)))));have olp:ol≠p:=λe=>by
    obtain⟨_,_,_,h,_⟩:=S4.tape.same s5;rw[e,h]at hol;cases hol
   have L6:LawAt t p H6 kl rl ol ms ps rss os:=⟨vA (S4.tape.same s5) TT5 s6,TT6,s6 _ _ (TT5.ne (s5 _ _ tkl)) (s5 _ _ tkl),klp,tol,olp,s6 _ _ (TT5.ne trl) trl,hR.sx TT5 s6⟩;have hNR:xN ms b rss w:=hr.1;have hOK:OrdK ms os:=OrdR.key ⟨hP,hPw⟩ hrl (mt hb hNR);have hLR:LtR rss ms:=mt hb hNR;clear sm T0 same T1 TT1 S2 TT2 S3 TT3 S13 S4 s4 tkl TT4 s5 t3 trl hR s6 TT6 tol TT5 hl0 tl0 hkb hol;nofun;refine⟨p,kl,ms,rfl,L6.tape,L6.key,L6.klp,⟨hm12,hmb⟩,λl q1 q2 q3 q4 l1 l2 l3 l4 m tb kt H7 S7 hl tl K1 K2 K3 K4 D1 D2 D3 D4=>?_⟩;have L7:=L6.kp (j8 S7) (mx L6.tab L6.tape S7) S7.tape;have M7:=M6.trans (j8 S7);clear L6 S7 M6 hl H6;have K1e:=K1;have K2e:=K2;obtain⟨us1,t1,tl1,_,hA1⟩:=K1;obtain⟨us2,t2,tl2,_,hA2⟩:=K2;nofun;refine⟨2,rfl,?_⟩;nofun;refine pw tl λz8 H8 hz8 s8 tz8=>?_
   have tz8:H8 z8=some (.lst [.ref q1,.ref q2]):=tz8;have key:∀(i:Nat) x,[PY q1,PY q2][i]? = some x->∃q l us k,x=.ref q/\H8 q=some (.tup [.str (Kd.name k),.ref l])/\H8 l=some (.lst us)/\KAt H8 k us/\k.ok/\∀rss' w' c',k.rows b rss' w' c'->rss'=rss:=λi x e=>by
    match i,e with
    | 0,e=>cases e;exact⟨q1,l1,us1,_,rfl,s8 _ _ t1,s8 _ _ tl1,hA1.same s8,D1.1,λr' w' c' h=>nY hb hNR h.1⟩
    | 1,e=>cases e;exact⟨q2,l2,us2,_,rfl,s8 _ _ t2,s8 _ _ tl2,hA2.same s8,D2.1,λr' w' c' h=>nZ hb hNR (by have:=h.1;rwa [j7]at this)⟩
    | i+2,e=>simp at e
   refine⟨z8,rfl,⟨_,PP tz8⟩,aF (a:=z8) (vs:=[.ref q1,.ref q2]) (λi ys σ H'=>Same H8 H'/\(∃rls:List Addr,ys=rls.map PY/\rls.length=i/\∀r∈rls,∃ps',H' r=some (.lst (ps'.map PY))/\RowsT H' ps' rss)/\∃v w,σ=[v,w,some (PR b)]) (am (by simp)) (λi ys σ H' h=>by obtain⟨_,⟨rls,rfl,e,_⟩,_⟩:=h;rw[GA,e]) (λi ys σ H' h=>PP (h.1 _ _ tz8)) ⟨PV _,⟨[],rfl,rfl,λr h=>nomatch h⟩,none,none,rfl⟩ ?_ ?_⟩
   ·rintro i ys σ H9 x hx ⟨s9,⟨rls,rfl,hrll,hrs⟩,v,w',rfl⟩
    have hil:=aI hx;obtain⟨q,l',us,kd,rfl,tq,tl',hA,hko,huq⟩:=key i x hx;refine aV (s9 _ _ tq) ?_;dsimp only[HV];nofun;refine⟨kd,us,l',b,rfl,.inl (s9 _ _ tl'),hA.same s9,hko,hb,hb2,λp3 rl' ps' rss' w'' c' HA sA t3 trl' hR' hr'=>?_⟩;obtain rfl:=huq _ _ _ hr';nofun;refine PX hil ⟨s9.trans sA,⟨rls++[rl'],by rw[GM];rfl,by simp[hrll],λr hr=>?_⟩,_,_,rfl⟩;rcases G9.mp hr with g|g
    ·obtain⟨ps'',e1,e2⟩:=hrs r g
     exact⟨ps'',sA _ _ e1,e2.same sA⟩
    ·rw[G1.mp g];exact⟨ps',trl',hR'⟩
   rintro ys σ H9 ⟨s9,⟨rls,rfl,hrll,hrs⟩,v,w',rfl⟩ u hu;have s9:=s8.trans s9;have s9a:=(PV H9).new (o:=.lst (rls.map PY)) hu;have tu:(upd H9 u (.lst (rls.map PY))) u=some (.lst (rls.map PY)):=aa;generalize upd H9 u (.lst (rls.map PY))=HA at s9a tu;nofun;refine⟨az (by simp),λy hy=>?_⟩;have sB:=(PV HA).new (o:=.lst [PY rl,PY rl]) hy;have ty:(upd HA y (.lst [PY rl,PY rl])) y=some (.lst [PY rl,PY rl]):=aa;generalize upd HA y (.lst [PY rl,PY rl])=HB at sB ty;have s7B:=s9.trans (s9a.trans sB);have LB:=L7.same s7B;obtain⟨d,dd1,dd2⟩:=my (n:=2) (sB _ _ tu) ty (by simp[hrll]) λi x v e1 e2=>by
    obtain⟨r,rfl,_,hrm,hi⟩:=aA e1;obtain⟨ps',g1,g2⟩:=hrs r hrm;have ev:v=PY rl:=by
     match i,e2 with
     | 0,e=>cases e;rfl
     | 1,e=>cases e;rfl
     | i+2,e=>simp at e
    subst ev;exact vz ((s9a.trans sB) _ _ g1) LB.rr (g2.same (s9a.trans sB)) LB.rows
   nofun;refine gZ dd1 dd2 (by decide) ?_;nofun;have tlB:=s7B _ _ tl;have t2B:=s7B _ _ t2;clear dd1 dd2 tu ty hrs hu hy tz8 hz8 key;obtain⟨qs2,rfl,hP2⟩:=hA2;refine bB (PP tlB) (v:=PY q2) (aU (j:=1) rfl) ?_;nofun;refine⟨l2,qs2,_,rfl,λz hz=>?_,.inl ⟨PP (s7B _ _ tl2),hP2.same s7B⟩,?_⟩
   ·obtain⟨x,_,rfl⟩:=GX.mp hz
    exact⟨GF _,show 1<=60 by decide⟩
   rw[qI];nofun;refine oN rfl ?_;nofun;refine CW ?_;nofun;refine⟨.nu ms,_,kl,b,rfl,.inl LB.key,rfl,hok,hb,hb2,λlm n1 n2 n3 HC _ sC hM hTo=>?_⟩;have hn3:n3=g9 rss:=by
    obtain⟨r',w',c',_,hr',_,_,_,rfl⟩:=hTo;rw[nZ hb hNR hr'.1]
   subst hn3;nofun;refine qK hM λdm HD sD hdm=>?_
   nofun;refine⟨dm,_,rfl,hdm,?_⟩;have s7D:=s7B.trans (sC.trans sD);have LD:=L7.same s7D;have tlD:=s7D _ _ tl;have M7D:=M7.trans (eC s7D);have K1:=K1e.same s7D;have K2:=K2e.same s7D;have K3:=K3.same s7D;have K4:=K4.same s7D;clear hdm hM hTo sC sD s7B s9 s9a s8 sB LB tlB t2B hP2 tl2 tl1 t1 t2 hA1 K1e K2e tl L7 M7;nofun;refine⟨az (by simp),λq0 hq0=>?_⟩;have sE:=(PV HD).new (o:=.tup [PU "number",PY kl]) hq0;have K0:KPair p (upd HD q0 (.tup [PU "number",PY kl])) q0 kl (.nu ms):=⟨_,aa,by rw[ai (ae LD.key hq0)];exact LD.key,klp,rfl⟩;generalize upd HD q0 (.tup [PU "number",PY kl])=HE at sE K0;nofun;refine⟨az (by simp),λz hz=>?_⟩;have sF:=(PV HE).new (o:=.lst [PY q0]) hz;have tz:(upd HE z (.lst [PY q0])) z=some (.lst [PY q0]):=aa;generalize upd HE z (.lst [PY q0])=HF at sF tz;nofun;refine⟨z,l,_,_,rfl,rfl,tz,(sE.trans sF) _ _ tlD,az (by simp),λc hc=>?_⟩;have sG:=(PV HF).new (o:=.lst ([PY q0]++[PY q1,PY q2,PY q3,PY q4])) hc;have tc:(upd HF c (.lst ([PY q0]++[PY q1,PY q2,PY q3,PY q4]))) c=some (.lst ([q0,q1,q2,q3,q4].map PY)):=aa;generalize upd HF c (.lst ([PY q0]++[PY q1,PY q2,PY q3,PY q4]))=HG at sG tc;have sDG:=sE.trans (sF.trans sG);have LG:=LD.same sDG;have MG:=M7D.trans (eC sDG);have D0:wc ms (.nu ms):=yK hok ⟨rfl,λ_ _ _ _=>rfl⟩;have AG:AllP p HG [q0,q1,q2,q3,q4] ms:=λq hq=>by
    simp only[GW,Hy,or_false]at hq;rcases hq with rfl|rfl|rfl|rfl|rfl
    ·exact⟨_,_,K0.same (sF.trans sG),D0⟩
    ·exact⟨_,_,K1.same sDG,D1⟩
    ·exact⟨_,_,K2.same sDG,D2⟩
    ·exact⟨_,_,K3.same sDG,D3⟩
    ·exact⟨_,_,K4.same sDG,D4⟩
   generalize [q0,q1,q2,q3,q4]=qs at tc AG;have hcp:c≠p:=qJ LG.tape tc;clear K0 K1 K2 K3 K4 D0 D1 D2 D3 D4 tz hz hc hq0 sE sF sG sDG LD M7D tlD;nofun;refine⟨c,rfl,⟨_,PP tc⟩,cI (a:=c) (xs:=qs.map PY) (λj σ H'=>LawAt t p H' kl rl ol ms ps rss os/\Kp t p H H'/\AllP p H' qs ms/\H' c=some (.lst (qs.map PY))/\∃v9 v10 v11 v12 v13,σ=[some (PY a),some (PR (0+(i:Nat))),some (PY p),some (PR b),some (PY kl),some (PY rl),some (PY ol),some (PY l),some (PR (g9 rss)),v9,v10,v11,v12,v13]) ⟨LG,MG,AG,tc,_,_,_,_,_,rfl⟩ (λj σ H' _ h=>PP h.2.2.2.1) ?_ ?_⟩
   ·rintro j x σ H' hx ⟨LH,MH,AH,tcH,v9,v10,v11,v12,v13,rfl⟩
    obtain⟨q,rfl,_,hqm,_⟩:=aA hx;obtain⟨lk,kd,hKP,hD⟩:=AH q hqm;obtain⟨us,tq,tlk,hlkp,hA⟩:=id hKP;refine aV tq ?_;dsimp only[HV];nofun;refine⟨p,rfl,LH.tape,λc0 H2 hc0 hc1 S2=>?_⟩;obtain⟨c1,rfl,hb3,hb4⟩:∃b:Nat,c0=(b:Nat)/\2<=b/\b<=64:=⟨c0.toNat,by lia,by lia,by lia⟩
    have L2:=LH.kp (j8 S2) (mx LH.tab LH.tape S2) S2.tape;have M2:=MH.trans (j8 S2);have A2:=AH.kp (j8 S2) LH.tab LH.tape;have tc2:=S2.keep _ _ tcH hcp;have hKP2:=hKP.kp (j8 S2) LH.tab LH.tape;obtain⟨us2,tq2,tlk2,_,hA2⟩:=id hKP2;clear LH MH AH tcH tq tlk hA hKP;nofun;refine⟨kd,us2,lk,c1,rfl,.inl tlk2,hA2,hD.1,hb3,hb4,λp3 rl' ps' rss' w' by2 H3 s3 t3 trl' hR' hr'=>?_⟩;obtain⟨hG',hrl',_,_⟩:=hr'.good hD.1 hb3 hb4;have hrm:rss'.length=ms.length:=hrl'.trans hD.2.1;have hLR':=hD.2.2 _ _ _ _ hb3 hr';have L3:=L2.same s3;nofun;refine⟨rl',ps',rss',w',rfl,⟨trl',trivial⟩,hR'.toU,λr hr=>(hG' r hr).1,by lia,L3.tab,λol' os' H4 hol' s4 TT4 tol' hP' hPw'=>?_⟩;have ho:os'=os:=OrdK.one (OrdR.key ⟨hP',hPw'⟩ hrm hLR') hOK;subst ho;have M34:=(eC (t:=t) (p:=p) s3).trans (xU s4);have L4:=L3.kp (xU s4) TT4 (vA L3.tape L3.tab s4);have A4:=A2.kp M34 L2.tab L2.tape;have tc4:=M34 _ _ (L2.tab.ne tc2) hcp tc2;have hKP4:=hKP2.kp M34 L2.tab L2.tape;have M4:=M2.trans M34;have tlk4:=M34 _ _ (L2.tab.ne tlk2) hlkp tlk2;have hA4:KAt H4 kd us2:=by
     obtain⟨us3,_,e3,_,e4⟩:=hKP4;rw[tlk4]at e3;cases e3;exact e4
    obtain⟨dd,e1,e2⟩:=n8 (is:=bE os') (by rw[<-bM];exact tol') (by rw[<-bM];exact L4.ord);nofun;refine gZ e1 e2 (by decide) ?_;clear e1 e2 tol' hP' hPw' hol' s4 TT4 L3 trl' t3 hR' s3 A2 M2 L2 tc2 tq2 tlk2 hA2 hKP2 M34 S2 tc;nofun;refine CW ?_;nofun;refine⟨kd,us2,lk,c1,rfl,.inl tlk4,hA4,hD.1,hb3,hb4,λlm n1 n2 n3 H5 _ s5 hM hTo=>?_⟩;have hn3:n3=g9 rss:=by
     obtain⟨r2,w2,c2,_,hr2,_,_,_,rfl⟩:=hTo;obtain⟨_,l2,_,_⟩:=hr2.good hD.1 hb3 hb4;exact xT (hD.2.2 _ _ _ _ hb3 hr2) hLR (l2.trans hD.2.1) hrl
    subst hn3;nofun;refine qK hM λdm H6 s6 hdm=>?_
    nofun;refine⟨dm,_,rfl,hdm,?_⟩;nofun;refine oN rfl ?_;have s46:=s5.trans s6;clear hdm hM hTo s5 s6;have hul:us2.length=ms.length:=hA4.len.trans hD.2.1;nofun;refine⟨az (by simp),λz hz=>?_⟩;have s7:=s46.new (o:=.tup [PU "last",PU "first",PU "runs"]) hz;have tz:(upd H6 z (.tup [PU "last",PU "first",PU "runs"])) z=some (.tup [PU "last",PU "first",PU "runs"]):=aa;generalize upd H6 z (.tup [PU "last",PU "first",PU "runs"])=H7 at s7 tz;clear s46;nofun;refine⟨z,rfl,⟨_,PQ tz⟩,oE (a:=z) (xs:=[.str "last",.str "first",.str "runs"]) (λj σ H'=>Same H7 H'/\∃v12 v13,σ=[some (PY a),some (PR (0+(i:Nat))),some (PY p),some (PR b),some (PY kl),some (PY rl),some (PY ol),some (PY l),some (PR (g9 rss)),some (PU kd.name),some (PY lk),some (PR c1),v12,v13]) ⟨PV _,_,_,rfl⟩ (λj σ H' _ h=>PQ (h.1 _ _ tz)) ?_ ?_⟩
    ·rintro j x σ H8 hx ⟨s8,v12,v13,rfl⟩
     obtain⟨way,rfl,hway⟩:∃way:Str,x=.str way/\(way = "last"\/way = "first"\/way = "runs"):=by
      match j,hx with
      | 0,e=>cases e;exact⟨_,rfl,.inl rfl⟩
      | 1,e=>cases e;exact⟨_,rfl,.inr (.inl rfl)⟩
      | 2,e=>cases e;exact⟨_,rfl,.inr (.inr rfl)⟩
      | j+3,e=>simp at e
     have s48:=s7.trans s8;nofun;refine⟨way,kd,us2,lk,c1,rfl,hway,s48 _ _ tlk4,hA4.same s48,hD.1,hb3,hb4,λtd ld od os2 ys m2 r2 w2 c2 H9 s9 ttd tod tld hPA hr2 hO2=>?_⟩;obtain⟨_,l2,_,_⟩:=hr2.good hD.1 hb3 hb4;have ho2:os2=os':=OrdK.one (OrdR.key hO2 (l2.trans hD.2.1) (hD.2.2 _ _ _ _ hb3 hr2)) hOK;subst ho2;have s49:=s48.trans s9;have L9:=L4.same s49;obtain⟨dd,e1,e2⟩:=n8 (is:=bE os2) (by rw[<-bM];exact tod) (by rw[<-bM];exact L9.ord);nofun;refine gZ e1 e2 (by decide) ?_;clear e1 e2;nofun;have tlk9:=s49 _ _ tlk4;have holn:os2.length=ms.length:=by rw[hOK.1.length_eq,HH]
     have hoi:∀o∈os2,o<us2.length:=λo ho=>by rw[hul];exact Hj.mp (hOK.1.mem_iff.mp ho)
     refine⟨ol,rfl,⟨_,PP L9.ord⟩,aF (a:=ol) (vs:=NV os2) (λi ys3 σ H'=>H9=H'/\ys3.length=i/\(∀(k o:Nat),k<i->os2[k]? = some o->ys3[k]? = us2[o]?)/\∃v,σ=[v,some (PY lk)]) (by rw[aw];exact am ⋯) (λi ys σ H' h=>h.2.1) (λi ys σ H' h=>by rw[<-h.1];exact PP L9.ord) ⟨rfl,rfl,λk o h=>absurd h (Mo _),none,rfl⟩ ?_ ?_⟩
     ·rintro i ys3 σ H' x hx ⟨rfl,hyl3,hys3,v,rfl⟩
      have hil:=aI hx;obtain⟨o,rfl,ho,hom,hi⟩:=aA hx;have hou:=hoi o hom;nofun;refine bB (PP tlk9) (v:=us2[o]) (aU (by simp[hou])) ?_;refine PX hil ⟨rfl,by simp[hyl3],λk' o' hk' e=>?_,_,rfl⟩;by_cases ek:k'=i
      ·subst ek
       rw[ho]at e;cases e;rw[He ⋯,hyl3,LY,Gz hou];rfl
      ·rw[G6 ⋯];exact hys3 k' o' ⋯ e
     rintro ys3 σ H' ⟨rfl,hyl3,hys3,v,rfl⟩ u hu;rw[aw]at hyl3 hys3;have sA:=(PV H9).new (o:=.lst ys3) hu;have tu:(upd H9 u (.lst ys3)) u=some (.lst ys3):=aa;generalize upd H9 u (.lst ys3)=HA at sA tu;obtain⟨dd,e1,e2⟩:=my (n:=1) (sA _ _ tld) tu (by rw[hPA.1,hyl3];lia) λk' y v' f1 f2=>by
      have hk:k'<os2.length:=by rw[holn,<-hul,<-hPA.1];exact aI f1
      have hou:=hoi os2[k'] (GU hk);have fo:=Gz hk;obtain⟨y',g1,g2⟩:=(hPA.same sA).2 k' _ _ fo (Gz hou);rw[f1]at g1;cases g1;have g3:=hys3 k' _ hk fo;rw[f2,Gz hou]at g3;cases g3;exact AK ((hA4.same s49).same sA) hD.1 (GU hou) g2
     refine gZ e1 e2 (by decide) ?_;nofun;exact⟨s8.trans (s9.trans sA),_,_,rfl⟩
    ·rintro σ H8 ⟨s8,v12,v13,rfl⟩
     have s48:=s7.trans s8;nofun;exact⟨L4.same s48,M4.trans (eC s48),A4.kp (eC s48) L4.tab L4.tape,s48 _ _ tc4,_,_,_,_,_,rfl⟩
   ·rintro σ H' ⟨LH,MH,AH,tcH,v9,v10,v11,v12,v13,rfl⟩
    nofun;exact⟨λb o n e=>MH b o n (ae e hpn) e,LH.tab,_,_,_,_,_,_,_,_,_,_,_,_,_,rfl⟩
  ·rintro σ H' ⟨sm,T0,v1,v2,v3,v4,v5,v6,v7,v8,v9,v10,v11,v12,v13,rfl⟩
   nofun;exact k _
end
theorem mB{α:Type}{P:List α->Prop}(h:∀x0:α,P [x0]):∀us:List α,us.length=1->P us
 | [x0],_=>h x0
theorem ik{α:Type}{P:List α->Prop}(h:∀x0 x1:α,P [x0,x1]):∀us:List α,us.length=2->P us
 | [x0,x1],_=>h x0 x1
theorem CZ{α:Type}{P:List α->Prop}(h:∀x0 x1 x2:α,P [x0,x1,x2]):∀us:List α,us.length=3->P us
 | [x0,x1,x2],_=>h x0 x1 x2
theorem Gp{α:Type}{P:List α->Prop}(h:∀x0 x1 x2 x3:α,P [x0,x1,x2,x3]):∀us:List α,us.length=4->P us
 | [x0,x1,x2,x3],_=>h x0 x1 x2 x3
theorem C0 {l:Mn}{w:World}{K:GC}{mg:Str->Option Value}{fa f0 f1 f2 f3 f4 f5 f6 f7 f8 f9 f10 f11 f12 f13 f14 f15 f16 f17 f18 f19 f20 f21 f22 f23 f24 f25 f26 f27 f28 f29 f30 f31 f32 f33 f34 f35 f36 f37 f38 f39 f40 f41 f42 f43 f44 f45 f46 f47 f48 f49 f50 f51 f52:Addr}{d0 d1 d2 d3 d4 d5 d6 d7 d8 d9 d10 d11 d12 d13 d14 d15 d16 d17 d18 d19 d20 d21 d22 d23 d24 d25 d26 d27 d28 d29 d30 d31 d32 d33 d34 d35 d36 d37 d38 d39 d40 d41 d42 d43 d44 d45 d46 d47 d48 d49 d50 d51:FuncData}(X:K.In h) (G:h.Ns mainGlobals mg) (hfa:mg "law" = some (.ref fa))
  (a0:GN K mainGlobals "many_figures" = some (some (.ref f0))) (F0:Fun K "many_figures" "many_figures" dq f0 d0)
  (a1:GN K mainGlobals "figures" = some (some (.ref f1))) (F1:Fun K "figures" "figures" jW f1 d1)
  (a2:GN K mainGlobals "common_measure" = some (some (.ref f2))) (F2:Fun K "common_measure" "common_measure" cy f2 d2)
  (a3:GN K mainGlobals "least_bottom" = some (some (.ref f3))) (F3:Fun K "least_bottom" "least_bottom" du f3 d3)
  (a4:GN K mainGlobals "whole_numbers" = some (some (.ref f4))) (F4:Fun K "whole_numbers" "whole_numbers" cR f4 d4)
  (a5:GN K mainGlobals "number_rows" = some (some (.ref f5))) (F5:Fun K "number_rows" "number_rows" ee f5 d5)
  (a6:GN K mainGlobals "text_row" = some (some (.ref f6))) (F6:Fun K "text_row" "text_row" iC f6 d6)
  (a7:GN K mainGlobals "text_rows" = some (some (.ref f7))) (F7:Fun K "text_rows" "text_rows" gh f7 d7)
  (a8:GN K mainGlobals "spelled" = some (some (.ref f8))) (F8:Fun K "spelled" "spelled" jX f8 d8)
  (a9:GN K mainGlobals "is_order" = some (some (.ref f9))) (F9:Fun K "is_order" "is_order" iD f9 d9)
  (a10:GN K mainGlobals "check_order" = some (some (.ref f10))) (F10:Fun K "check_order" "check_order" ef f10 d10)
  (a11:GN K mainGlobals "own_copy" = some (some (.ref f11))) (F11:Fun K "own_copy" "own_copy" iE f11 d11)
  (a12:GN K mainGlobals "put" = some (some (.ref f12))) (F12:Fun K "put" "put" Ai f12 d12)
  (a13:GN K mainGlobals "told_order" = some (some (.ref f13))) (F13:Fun K "told_order" "told_order" fh f13 d13)
  (a14:GN K mainGlobals "counts" = some (some (.ref f14))) (F14:Fun K "counts" "counts" lZ f14 d14)
  (a15:GN K mainGlobals "begins" = some (some (.ref f15))) (F15:Fun K "begins" "begins" l6 f15 d15)
  (a16:GN K mainGlobals "many_columns" = some (some (.ref f16))) (F16:Fun K "many_columns" "many_columns" dv f16 d16)
  (a17:GN K mainGlobals "tally" = some (some (.ref f17))) (F17:Fun K "tally" "tally" pq f17 d17)
  (a18:GN K mainGlobals "beginnings" = some (some (.ref f18))) (F18:Fun K "beginnings" "beginnings" fi f18 d18)
  (a19:GN K mainGlobals "is_parted" = some (some (.ref f19))) (F19:Fun K "is_parted" "is_parted" gi f19 d19)
  (a20:GN K mainGlobals "order_by_figure" = some (some (.ref f20))) (F20:Fun K "order_by_figure" "order_by_figure" ce f20 d20)
  (a21:GN K mainGlobals "parts_of" = some (some (.ref f21))) (F21:Fun K "parts_of" "parts_of" iF f21 d21)
  (a22:GN K mainGlobals "from_first" = some (some (.ref f22))) (F22:Fun K "from_first" "from_first" fj f22 d22)
  (a23:GN K mainGlobals "many_goings_on" = some (some (.ref f23))) (F23:Fun K "many_goings_on" "many_goings_on" cz f23 d23)
  (a24:GN K mainGlobals "ahead_of_first" = some (some (.ref f24))) (F24:Fun K "ahead_of_first" "ahead_of_first" cA f24 d24)
  (a25:GN K mainGlobals "from_last" = some (some (.ref f25))) (F25:Fun K "from_last" "from_last" gj f25 d25)
  (a26:GN K mainGlobals "ahead_of_last" = some (some (.ref f26))) (F26:Fun K "ahead_of_last" "ahead_of_last" cS f26 d26)
  (a27:GN K mainGlobals "runs" = some (some (.ref f27))) (F27:Fun K "runs" "runs" uR f27 d27)
  (a28:GN K mainGlobals "merged" = some (some (.ref f28))) (F28:Fun K "merged" "merged" l7 f28 d28)
  (a29:GN K mainGlobals "merged_places" = some (some (.ref f29))) (F29:Fun K "merged_places" "merged_places" cT f29 d29)
  (a30:GN K mainGlobals "merging_round" = some (some (.ref f30))) (F30:Fun K "merging_round" "merging_round" cU f30 d30)
  (a31:GN K mainGlobals "ahead_of_runs" = some (some (.ref f31))) (F31:Fun K "ahead_of_runs" "ahead_of_runs" cV f31 d31)
  (a32:GN K mainGlobals "by_runs" = some (some (.ref f32))) (F32:Fun K "by_runs" "by_runs" jY f32 d32)
  (a33:GN K mainGlobals "last_ahead" = some (some (.ref f33))) (F33:Fun K "last_ahead" "last_ahead" fk f33 d33)
  (a34:GN K mainGlobals "first_ahead" = some (some (.ref f34))) (F34:Fun K "first_ahead" "first_ahead" eh f34 d34)
  (a35:GN K mainGlobals "runs_ahead" = some (some (.ref f35))) (F35:Fun K "runs_ahead" "runs_ahead" fm f35 d35)
  (a36:GN K mainGlobals "last_done" = some (some (.ref f36))) (F36:Fun K "last_done" "last_done" gl f36 d36)
  (a37:GN K mainGlobals "first_done" = some (some (.ref f37))) (F37:Fun K "first_done" "first_done" fq f37 d37)
  (a38:GN K mainGlobals "runs_done" = some (some (.ref f38))) (F38:Fun K "runs_done" "runs_done" gm f38 d38)
  (a39:GN K mainGlobals "moves_ahead" = some (some (.ref f39))) (F39:Fun K "moves_ahead" "moves_ahead" en f39 d39)
  (a40:GN K mainGlobals "ordered" = some (some (.ref f40))) (F40:Fun K "ordered" "ordered" jZ f40 d40)
  (a41:GN K mainGlobals "_law_tape" = some (some (.ref f41))) (F41:Fun K "_law_tape" "_law_tape" uS f41 d41)
  (a42:GN K mainGlobals "_law_draw" = some (some (.ref f42))) (F42:Fun K "_law_draw" "_law_draw" uT f42 d42)
  (a43:GN K mainGlobals "_law_many" = some (some (.ref f43))) (F43:Fun K "_law_many" "_law_many" uU f43 d43)
  (a44:GN K mainGlobals "_law_base" = some (some (.ref f44))) (F44:Fun K "_law_base" "_law_base" uV f44 d44)
  (a45:GN K mainGlobals "_law_power" = some (some (.ref f45))) (F45:Fun K "_law_power" "_law_power" pr f45 d45)
  (a46:GN K mainGlobals "_law_number" = some (some (.ref f46))) (F46:Fun K "_law_number" "_law_number" l8 f46 d46)
  (a47:GN K mainGlobals "_law_key" = some (some (.ref f47))) (F47:Fun K "_law_key" "_law_key" Aj f47 d47)
  (a48:GN K mainGlobals "_law_keys" = some (some (.ref f48))) (F48:Fun K "_law_keys" "_law_keys" uW f48 d48)
  (a49:GN K mainGlobals "_law_text_of" = some (some (.ref f49))) (F49:Fun K "_law_text_of" "_law_text_of" j0 f49 d49)
  (a50:GN K mainGlobals "_law_lowest" = some (some (.ref f50))) (F50:Fun K "_law_lowest" "_law_lowest" l9 f50 d50)
  (a51:GN K mainGlobals "_law_others" = some (some (.ref f51))) (F51:Fun K "_law_others" "_law_others" md f51 d51)
  (a52:GN K mainGlobals "law" = some (some (.ref f52)))
  {oc52 kV52 dc52 pm52 cd52 ct52:Value}{od52 an52:Option Addr}{sl52:Array (Option Value)}
  (l52:K.lookup f52=some ⟨oc52,od52,.func (JD "law" "law" (jx rQ) (fb rQ) (ao rQ) .none kV52 dc52 pm52 an52 cd52 ct52),sl52⟩) (c52:K5 K cd52 "law" = true) (k52:Jf K (.ref f52)=true)
  (sf:GN K mainGlobals "abs" = some none)
  (qS:GN K mainGlobals "bool" = some none)
  (ow:GN K mainGlobals "dict" = some none)
  (df:GN K mainGlobals "enumerate" = some none)
  (sg:GN K mainGlobals "int" = some none)
  (bf:GN K mainGlobals "isinstance" = some none)
  (bv:GN K mainGlobals "len" = some none)
  (fY:GN K mainGlobals "list" = some none)
  (ox:GN K mainGlobals "max" = some none)
  (mS:GN K mainGlobals "min" = some none)
  (vY:GN K mainGlobals "ord" = some none)
  (bn:GN K mainGlobals "range" = some none)
  (ij:GN K mainGlobals "sorted" = some none)
  (kP:GN K mainGlobals "sum" = some none)
  (bA:GN K mainGlobals "tuple" = some none)
  (yd:GN K mainGlobals "zip" = some none)
  {cc pt:Addr}(hcc:d13.code=.ref cc) (hchd:Kz K cc pt=true)
  {lr:Addr}{q0_DONE q1_DONE q2_DONE:Tok}{ep_DONE:Nat}(ag_DONE:GN K mainGlobals "DONE" = some (some (.ref lr))) (at_DONE:K.lookup lr=some ⟨.type "dict",none,.dict #[⟨IE w.params "last",.str "last" q0_DONE,.ref f36⟩,⟨IE w.params "first",.str "first" q1_DONE,.ref f37⟩,⟨IE w.params "runs",.str "runs" q2_DONE,.ref f38⟩] ep_DONE,#[]⟩)
  {iJ:Addr}{q0_AHEAD q1_AHEAD q2_AHEAD:Tok}{ep_AHEAD:Nat}(ag_AHEAD:GN K mainGlobals "AHEAD" = some (some (.ref iJ))) (at_AHEAD:K.lookup iJ=some ⟨.type "dict",none,.dict #[⟨IE w.params "last",.str "last" q0_AHEAD,.ref f33⟩,⟨IE w.params "first",.str "first" q1_AHEAD,.ref f34⟩,⟨IE w.params "runs",.str "runs" q2_AHEAD,.ref f35⟩] ep_AHEAD,#[]⟩)
  {i4:Addr}{q0_WAYS q1_WAYS q2_WAYS:Tok}{ep_WAYS:Nat}{od_WAYS:Option Addr}{sl_WAYS:Array (Option Value)}(ag_WAYS:GN K mainGlobals "WAYS" = some (some (.ref i4))) (at_WAYS:K.lookup i4=some ⟨.type "tuple",od_WAYS,.seq #[.str "last" q0_WAYS,.str "first" q1_WAYS,.str "runs" q2_WAYS] ep_WAYS,sl_WAYS⟩)
  {gz:Tok}(ag_TEXT_BASE:GN K mainGlobals "TEXT_BASE" = some (some (.int 27 gz))) :
  ∃fd:FuncData,(∃c,Kz K c pt=true)/\(∀(s:Shared) (v:Value),BindsTo s fd ⟨[v],[]⟩ [("_law_script",v)])/\∀base:Heap,K.In base->base.Ns mainGlobals mg->base.BuiltinsAt mg pt->FnOk l.prog w K mg base CX0 6 fa fd ["_law_script"] (xV K pt):=by
 have e:=hfa.symm.trans (GP X G a52);cases e;have b0:=F0.binds (ps:=["n","base"]) λ_ _ _ _ _ _=>ik (λ_ _=>rfl)
 have b1:=F1.binds (ps:=["n","base","many"]) λ_ _ _ _ _ _=>CZ (λ_ _ _=>rfl)
 have b2:=F2.binds (ps:=["one","other"]) λ_ _ _ _ _ _=>ik (λ_ _=>rfl)
 have b3:=F3.binds (ps:=["parts"]) λ_ _ _ _ _ _=>mB (λ_=>rfl)
 have b4:=F4.binds (ps:=["parts"]) λ_ _ _ _ _ _=>mB (λ_=>rfl)
 have b5:=F5.binds (ps:=["numbers","base"]) λ_ _ _ _ _ _=>ik (λ_ _=>rfl)
 have b6:=F6.binds (ps:=["text","columns"]) λ_ _ _ _ _ _=>ik (λ_ _=>rfl)
 have b7:=F7.binds (ps:=["texts"]) λ_ _ _ _ _ _=>mB (λ_=>rfl)
 have b8:=F8.binds (ps:=["kind","keys","base"]) λ_ _ _ _ _ _=>CZ (λ_ _ _=>rfl)
 have b9:=F9.binds (ps:=["thing"]) λ_ _ _ _ _ _=>mB (λ_=>rfl)
 have b10:=F10.binds (ps:=["thing","many"]) λ_ _ _ _ _ _=>ik (λ_ _=>rfl)
 have b11:=F11.binds (ps:=["thing"]) λ_ _ _ _ _ _=>mB (λ_=>rfl)
 have b12:=F12.binds (ps:=["things","order"]) λ_ _ _ _ _ _=>ik (λ_ _=>rfl)
 have b13:=F13.binds (ps:=["rows"]) λ_ _ _ _ _ _=>mB (λ_=>rfl)
 have b14:=F14.binds (ps:=["row","base"]) λ_ _ _ _ _ _=>ik (λ_ _=>rfl)
 have b15:=F15.binds (ps:=["counts"]) λ_ _ _ _ _ _=>mB (λ_=>rfl)
 have b16:=F16.binds (ps:=["rows"]) λ_ _ _ _ _ _=>mB (λ_=>rfl)
 have b17:=F17.binds (ps:=["rows","base"]) λ_ _ _ _ _ _=>ik (λ_ _=>rfl)
 have b18:=F18.binds (ps:=["rows","column"]) λ_ _ _ _ _ _=>ik (λ_ _=>rfl)
 have b19:=F19.binds (ps:=["often"]) λ_ _ _ _ _ _=>mB (λ_=>rfl)
 have b20:=F20.binds (ps:=["row","base"]) λ_ _ _ _ _ _=>ik (λ_ _=>rfl)
 have b21:=F21.binds (ps:=["first","often","column"]) λ_ _ _ _ _ _=>CZ (λ_ _ _=>rfl)
 have b22:=F22.binds (ps:=["rows","base"]) λ_ _ _ _ _ _=>ik (λ_ _=>rfl)
 have b23:=F23.binds (ps:=["longer"]) λ_ _ _ _ _ _=>mB (λ_=>rfl)
 have b24:=F24.binds (ps:=["lists"]) λ_ _ _ _ _ _=>mB (λ_=>rfl)
 have b25:=F25.binds (ps:=["rows","base"]) λ_ _ _ _ _ _=>ik (λ_ _=>rfl)
 have b26:=F26.binds (ps:=["tally"]) λ_ _ _ _ _ _=>mB (λ_=>rfl)
 have b27:=F27.binds (ps:=["rows"]) λ_ _ _ _ _ _=>mB (λ_=>rfl)
 have b28:=F28.binds (ps:=["one","other"]) λ_ _ _ _ _ _=>ik (λ_ _=>rfl)
 have b29:=F29.binds (ps:=["rows","one","other"]) λ_ _ _ _ _ _=>CZ (λ_ _ _=>rfl)
 have b30:=F30.binds (ps:=["lengths"]) λ_ _ _ _ _ _=>mB (λ_=>rfl)
 have b31:=F31.binds (ps:=["lengths"]) λ_ _ _ _ _ _=>mB (λ_=>rfl)
 have b32:=F32.binds (ps:=["rows"]) λ_ _ _ _ _ _=>mB (λ_=>rfl)
 have b33:=F33.binds (ps:=["rows","base"]) λ_ _ _ _ _ _=>ik (λ_ _=>rfl)
 have b34:=F34.binds (ps:=["rows","base"]) λ_ _ _ _ _ _=>ik (λ_ _=>rfl)
 have b35:=F35.binds (ps:=["rows","base"]) λ_ _ _ _ _ _=>ik (λ_ _=>rfl)
 have b36:=F36.binds (ps:=["rows","base"]) λ_ _ _ _ _ _=>ik (λ_ _=>rfl)
 have b37:=F37.binds (ps:=["rows","base"]) λ_ _ _ _ _ _=>ik (λ_ _=>rfl)
 have b38:=F38.binds (ps:=["rows","base"]) λ_ _ _ _ _ _=>ik (λ_ _=>rfl)
 have b39:=F39.binds (ps:=["kind","keys","base"]) λ_ _ _ _ _ _=>CZ (λ_ _ _=>rfl)
 have b40:=F40.binds (ps:=["way","kind","keys","base"]) λ_ _ _ _ _ _=>Gp (λ_ _ _ _=>rfl)
 have b41:=F41.binds (ps:=["_law_script","_law_k"]) λ_ _ _ _ _ _=>ik (λ_ _=>rfl)
 have b42:=F42.binds (ps:=["_law_tape_here","_law_many_here"]) λ_ _ _ _ _ _=>ik (λ_ _=>rfl)
 have b43:=F43.binds (ps:=["_law_tape_here"]) λ_ _ _ _ _ _=>mB (λ_=>rfl)
 have b44:=F44.binds (ps:=["_law_tape_here"]) λ_ _ _ _ _ _=>mB (λ_=>rfl)
 have b45:=F45.binds (ps:=["_law_base_here","_law_many_here"]) λ_ _ _ _ _ _=>ik (λ_ _=>rfl)
 have b46:=F46.binds (ps:=["_law_tape_here","_law_base_here"]) λ_ _ _ _ _ _=>ik (λ_ _=>rfl)
 have b47:=F47.binds (ps:=["_law_tape_here","_law_base_here"]) λ_ _ _ _ _ _=>ik (λ_ _=>rfl)
 have b48:=F48.binds (ps:=["_law_tape_here","_law_base_here"]) λ_ _ _ _ _ _=>ik (λ_ _=>rfl)
 have b49:=F49.binds (ps:=["_law_number_here","_law_columns"]) λ_ _ _ _ _ _=>ik (λ_ _=>rfl)
 have b50:=F50.binds (ps:=["_law_top","_law_bottom"]) λ_ _ _ _ _ _=>ik (λ_ _=>rfl)
 have b51:=F51.binds (ps:=["_law_tape_here","_law_keys_here"]) λ_ _ _ _ _ _=>ik (λ_ _=>rfl)
 have F52:=yo (st:=rQ) l52 c52 k52;have b52:=F52.binds (ps:=["_law_script"]) λ_ _ _ _ _ _=>mB (λ_=>rfl)
 have TT:∀base:Heap,base.BuiltinsAt mg pt->Tx K mg ⟨_,_,_,_,_,_,_,_,_,_,_,_,_,_,_,_,_,_,_,_,_,_,_,_,_,_,_,_,_,_,_,_,_,_,_,_,_,_,_,_,_,_,_,_,_,_,_,_,_,_,_,_,_,_,_,_,_,_,_,_,_,_,_,_,_,_,_,_,_,_,_,_,_,_,_,_,_,_,_,_,_,_,_,_,_,_,_,_,_,_,_,_,_,_,_,_,_,_,_,_,_,_,_,_,_,_,cc,pt,base,w,_,_,_,_⟩:=λbase hba=>⟨GP X G a0,F0,b0,GP X G a1,F1,b1,GP X G a2,F2,b2,GP X G a3,F3,b3,GP X G a4,F4,b4,GP X G a5,F5,b5,GP X G a6,F6,b6,GP X G a7,F7,b7,GP X G a8,F8,b8,GP X G a9,F9,b9,GP X G a10,F10,b10,GP X G a11,F11,b11,GP X G a12,F12,b12,GP X G a13,F13,b13,GP X G a14,F14,b14,GP X G a15,F15,b15,GP X G a16,F16,b16,GP X G a17,F17,b17,GP X G a18,F18,b18,GP X G a19,F19,b19,GP X G a20,F20,b20,GP X G a21,F21,b21,GP X G a22,F22,b22,GP X G a23,F23,b23,GP X G a24,F24,b24,GP X G a25,F25,b25,GP X G a26,F26,b26,GP X G a27,F27,b27,GP X G a28,F28,b28,GP X G a29,F29,b29,GP X G a30,F30,b30,GP X G a31,F31,b31,GP X G a32,F32,b32,GP X G a33,F33,b33,GP X G a34,F34,b34,GP X G a35,F35,b35,GP X G a36,F36,b36,GP X G a37,F37,b37,GP X G a38,F38,b38,GP X G a39,F39,b39,GP X G a40,F40,b40,GP X G a41,F41,b41,GP X G a42,F42,b42,GP X G a43,F43,b43,GP X G a44,F44,b44,GP X G a45,F45,b45,GP X G a46,F46,b46,GP X G a47,F47,b47,GP X G a48,F48,b48,GP X G a49,F49,b49,GP X G a50,F50,b50,GP X G a51,F51,b51,GP X G a52,F52,b52,Hs X G sf,Hs X G qS,Hs X G ow,Hs X G df,Hs X G sg,Hs X G bf,Hs X G bv,Hs X G fY,Hs X G ox,Hs X G mS,Hs X G vY,Hs X G bn,Hs X G ij,Hs X G kP,Hs X G bA,Hs X G yd,hcc,hchd,hba,GP X G ag_DONE,⟨[q0_DONE,q1_DONE,q2_DONE],ep_DONE,rfl,at_DONE⟩,GP X G ag_AHEAD,⟨[q0_AHEAD,q1_AHEAD,q2_AHEAD],ep_AHEAD,rfl,at_AHEAD⟩,GP X G ag_WAYS,λH=>.inr ⟨_,_,_,at_WAYS,rfl,rfl,(by show 3<=P4;decide),(.cons ⟨_,rfl⟩ (.cons ⟨_,rfl⟩ (.cons ⟨_,rfl⟩ .nil)))⟩,GP X G ag_TEXT_BASE⟩
 exact⟨_,⟨_,hchd⟩,λs v=>.of_eq rfl,λbase _ _ hba=>CY (TT base hba)⟩
theorem Do{l:Mn}{q:Program}{loose:List Str}{XP:(Str->Option Value)->Heap->Prop}{YP:World->Heap->Prop}{d:DefRec}{K:Params->GC}{pt:Addr}(hn:l.most=some 63)(hdf:d.params.defaults=[])
  (hY:∀(w:World) (h:Heap),YP w h->(K w.params).In h)
  (hYT:∀(w:World) (h:Heap),YP w h->h.get? pt=some (PySem.W.tabObj #[])) (hnt:∀w:World,PySem.W.noTabs (K w.params)=true)
  (F:∀(w:World) (mg:Str->Option Value) (fa:Addr) (h:Heap),(K w.params).In h->h.Ns mainGlobals mg->mg d.name=some (.ref fa)->
   ∃fd:FuncData,(∃c,Kz (K w.params) c pt=true)/\(∀(s:Shared) (u:Value),BindsTo s fd ⟨[u],[]⟩ [("_law_script",u)])/\∀base:Heap,(K w.params).In base->base.Ns mainGlobals mg->base.BuiltinsAt mg pt->FnOk l.prog w (K w.params) mg base CX0 6 fa fd ["_law_script"] (xV (K w.params) pt)) :
  Od q loose XP YP l.row.toRowW d [] (λf vs=>NQ f vs):=
 L2.xt (n:=63) (k:=6) (x:="_law_script") (CX:=λ_=>CX0) (sp:=λw pt=>xV (K w.params) pt) hn (by decide) hdf ⟨rfl,by decide,by decide,rfl⟩ hY hYT hnt F (λ_ _ a ns hl hP hS=>⟨a,ns,rfl,hS,hl,.inl hP,λ_=>rfl⟩) λ_ _ _ _ _ z=>z
end Fs
open PySem PySem.W PyProof.Rows
set_option maxRecDepth 100000 in
set_option maxHeartbeats 0 in
theorem PySem.Challenge.cw_figuresort_k68_whole_kinds_by_one_anothe_holds : PySem.Challenge.rw_figuresort_k68_whole_kinds_by_one_anothe.Holds := by
 w_on;refine holds_law Fs.Dx λsaid=>?_
 refine holds_open (q:=Fs.vwF) (loose:=Fs.loF) (Xt:=Fs.xtF) (XP:=XL Fs.vwF []) (YP:=Hook.says Fs.mT) Fs.Dw (Hook.of Fs.mT) (Hook.keeps Fs.mT) (λs e=>xl_of s (MW.mp e).1) XL.keeps (by rfl) (by rfl) (by rfl) (λs e=>recFacts_of (MW.mp e).2) (by rfl) said (by decide +kernel) ⟨rfl,rfl,rfl,rfl,rfl,by decide +kernel⟩ ?hw ?hc
 (case hw=>w_witness2)
 delta Fs.mT
 k_fill
 refine' Fs.Do (l:=Hr) (pt:=?pt) rfl rfl (λw h Y=>PySem.W.km_in_of Y) (λw h Y=>PySem.W.km_tabs_of Y _ (PN _)) ?nt ?F;case F=>
  intro w mg fa h KX G hmg;refine' Fs.C0 KX G hmg ?a0 ?F0 ?a1 ?F1 ?a2 ?F2 ?a3 ?F3 ?a4 ?F4 ?a5 ?F5 ?a6 ?F6 ?a7 ?F7 ?a8 ?F8 ?a9 ?F9 ?a10 ?F10 ?a11 ?F11 ?a12 ?F12 ?a13 ?F13 ?a14 ?F14 ?a15 ?F15 ?a16 ?F16 ?a17 ?F17 ?a18 ?F18 ?a19 ?F19 ?a20 ?F20 ?a21 ?F21 ?a22 ?F22 ?a23 ?F23 ?a24 ?F24 ?a25 ?F25 ?a26 ?F26 ?a27 ?F27 ?a28 ?F28 ?a29 ?F29 ?a30 ?F30 ?a31 ?F31 ?a32 ?F32 ?a33 ?F33 ?a34 ?F34 ?a35 ?F35 ?a36 ?F36 ?a37 ?F37 ?a38 ?F38 ?a39 ?F39 ?a40 ?F40 ?a41 ?F41 ?a42 ?F42 ?a43 ?F43 ?a44 ?F44 ?a45 ?F45 ?a46 ?F46 ?a47 ?F47 ?a48 ?F48 ?a49 ?F49 ?a50 ?F50 ?a51 ?F51 ?a52 ?l52 ?c52 ?k52 ?sf ?qS ?ow ?df ?sg ?bf ?bv ?fY ?ox ?mS ?vY ?bn ?ij ?kP ?bA ?yd ?hcc ?hchd ?ag_DONE ?at_DONE ?ag_AHEAD ?at_AHEAD ?ag_WAYS ?at_WAYS ?ag_TEXT_BASE
  iterate 2 all_goals (first|k_is|exact L2.yo (by k_is) (by k_is) (by k_is)|skip)
  (case hcc=>exact rfl)
  all_goals kernel_rfl
 case nt=>
  intro w
  kernel_rfl
