import PyProof.Rows.All
import Wide.All
import OpenK.AllK
import Wide.FinOn
import Lean
import PyProof.EqAt
import PyProof.EqKinds
import PyProof.TupleCall
import PySem.Challenge.RW_figuresort_k47_ordered_by_each_way
set_option compiler.extract_closed false
local macro_rules
 | `(tactic|lia)=>`(tactic|first | lia (config:={}) | omega)
local macro_rules
 | `(⋯)=>`(by lia)
open List renaming getElem?_eq_getElem→DR,getD_eq_getElem?_getD→DS,length_map→DT,take_of_length_le→DW,getElem?_map→DX,range→DZ,map_append→D0,getElem_mem→D1,mem_map→D4,mem_singleton→D5,getElem?_eq_some_iff→D6,take_add_one→D7,length_append→D8,size_toArray→D9,mem_cons→Eb,length_take→Ee,replicate→Ef,mem_append_right→Eg,length_cons→Ej,getElem?_append_left→Ek,mem_cons_of_mem→En,map_congr_left→Eo,mem_cons_self→Es,mem_append→Et,mem_of_getElem?→Ew,map_cons→Ez,append_assoc→EA,drop_zero→EB,not_mem_nil→EC,map_map→ED,getElem?_append_right→EE,mem_range→EF,mem_filter→EI,sum_cons→EJ,pairwise_iff_getElem→EL,length_drop→EO,length_singleton→EV,take_append_drop→EW,getElem?_range→EX,mem_append_left→EZ,append_nil→E1,length_nil→E2,set→E7,pairwise_append→Fb,nodup_cons→Fc,sum_append→Fd,replicate_succ→Fe,length_range→Ff,length_eq_zero_iff→Fi,length_pos_iff→Fm,getElem?_eq_none→Fo,mem_reverse→Ft,length_replicate→Fz,count_eq_zero→FB,filter_append→FC,toArray→FE,mem_of_mem_take→FH,pairwise_singleton→FJ,all_eq_true→FM,zip_cons_cons→FN,pairwise_cons→FQ,range'→FV,count_append→FZ,getElem?_replicate→F1,length_reverse→F3,drop_drop→F4,map_replicate→F9,nil_append→Gc,length_filter_le→Ge,filter_map→Gf,find?_cons→Gg,map_take→Gi,pairwise_map→Gj,mem_iff_getElem→Gn,drop_eq_getElem_cons→Gq,extract_eq_drop_take→Gr,lookup_cons→Gz,eq_of_mem_replicate→GB,flatten_replicate_singleton→GC,take_succ_cons→GD,getElem?_cons_succ→GE,map_drop→GG,drop_of_length_le→GN,flatten_cons→GO,count_eq_length_filter→GV,ext_getElem→GX,getElem?_of_mem→GY,take_length→G0,reverse_reverse→G1,mem_of_mem_drop→G3,length→G7,getElem?_take_of_lt→Hi,getElem?_set→Hy,pairwise_lt_range→HJ,all_cons→HL,map_reverse→HS,nodup_range→HU,countP_cons→HX,cons_append→HY,filter_cons→HZ,getElem?_reverse→Ic,eq_nil_or_concat→Ig,perm_append_comm→Ii,map_nil→Ik,exists_mem_of_length_pos→Iu,filterMap_cons→Iv,countP_eq_zero→Iy,drop_succ_cons→IA,getElem_of_mem→IB,forIn_nil→IE,nodup_nil→IG,take_zero→II,zip_nil_right→IL,perm_append_comm_assoc→IX,nodup_iff_pairwise_ne→Jc,perm_append_singleton→Jd,zip_nil_left→Ji,reverse_cons→Jj,ext_getElem?→Jk,nodup_append→Jl,filter_congr→Jm,flatMap_cons→Jn,count_singleton_self→Jt,getElem?_eq_none_iff→Ju,zipIdx_cons→JD,length_erase_of_mem→JE,mem_flatMap→JG,filter_cons_of_pos→JJ,filter_cons_of_neg→JK,append_cancel_left→JS,of_mem_zip→JV,length_set→JW,forIn_cons→JY,range_succ→J0,filter_nil→J6,getElem?_set_self→J8,filter_eq_nil_iff→Ki,range_succ_eq_map→Kk,countP_le_length→Kn,take_take→Ko,pairwise_reverse→Kp,concat_eq_append→Kq,drop_left→Kr,take_left→Ks,cons_lt_cons_iff→Kt,dropLast_eq_take→Kv,getElem?_set_ne→Kw,perm_cons_erase→KB,mem_erase_of_ne→KC,range'_append_1→KD,range_eq_range'→KE,replicate_succ'→KG,any_cons→KM,reverse_append→KQ,map_eq_nil_iff→KS,mem_filterMap→KU,getElem_range→K5,count_pos_iff→La,getElem?_drop→Lb,length_range'→Lc,map_inj_right→Le,take_sublist→Ll,foldl_append→Lp,map_dropLast→Lw,getElem_map→LN,perm_middle→LO,sum_reverse→LP,drop_append→LU,foldl→LZ,foldl_cons→L0,count→Ma,zipIdx_nil→Mb,count_cons→Mc,append_inj→Mf,map_set→Nc,map→Nj,filter→NC
open PySem.W renaming Frag→DU,mg_none_of→EG,nsIn→EK,kia_one→Fp,kia_tup→Fy,fnOf→F8,keepIn→Gu,kitOne→GR,mg_of→G6,kitx_list→Hw,codeIn→ID,kitx_tuple→IK,methodObj→Jg,kitx_none→Jh,kitx_int→Jw,instObj→JU,OpenLaw→JX,cellsFrom_some→Ka,lookIn→Km,callWith_K→KW,kitx_bool→Lj,kitx_dict→Lk,plainGet→LF,kitx_str→LG,topFrom→LX,findIn→Mj,kitAny→Mn,WalkO→Mv
open PySem.Heap renaming get?_push_of_some→DV,lt_size→D2,get?_push_size→Ea,get?_update_other→Fx,SameBut→FK,size_push→FO,get?_update_self→Ga,get?_push_ne→HH,size_update→Ib,ExtBut→Kb,IsTuple→Nd
open Nat renaming le_refl→DY,zero_le→Ec,ne_of_lt→Eh,lt_of_lt_of_le→El,le_trans→ET,ne_of_gt→EU,lt_of_le_of_lt→E4,lt_irrefl→E9,le_add_right→Fj,lt_trichotomy→Fn,le_of_lt→Fv,gcd→FX,lt_succ_of_lt→FY,min_eq_left→Gd,le_of_eq→Gy,lcm→GS,add_assoc→G4,add_zero→Hm,gcd_pos_of_pos_left→Hv,gcd_dvd_right→HI,le_of_dvd→HM,not_lt_of_le→HV,pow_succ→Im,sub_zero→Io,lt_trans→Ir,mul_le_mul_left→Iz,add_sub_cancel→IT,mod_lt→Jr,lt_succ_self→Jz,succ_ne_self→JA,mul_div_cancel_left→JN,pos_of_mul_pos_left→JO,pow_pos→Ke,pow_le_pow_right→KH,succ_mul→K0,lt_or_gt_of_ne→K6,zero_add→Ld,gcd_zero_right→Lh,le_succ_of_le→Lq,mul_add→LB,mul_one→LC,min_le_right→LH,gcd_dvd_left→LL,succ_le_succ→LQ,mod_eq_of_lt→LR,log2_le_self→LW,div_pos_iff→L7,div_le_self→L9,not_lt_zero→Mh,dvd_trans→Mw,mul_comm→M7,gcd_comm→Na,lt_or_ge→Nf,sub_self→Nk,le_succ→Nv,one_mul→Ny,mod_mul→NB,not_lt→NJ
open True renaming intro→D3
open Array renaming size_map→Ed,toList_append→EM,length_toList→E8,getElem?_toList→Gb,toList_reverse→Gs,toList_extract→GZ,perm_iff_toList_perm→G5,size_extract→Hk,toList_push→Hz,toList_inj→HR,getD→Jq,mem_toList_iff→Kx,size_append→Lm,toList_map→LV,toList→MR
open Bool renaming false_ne_true→Ei,and_eq_true→EH,false_eq_true→ER,not_true→GF,eq_iff_iff→GH,eq_false_iff→GQ,false_or→HK,true_or→Jy,or_eq_true→JZ,and_eq_true_iff→KI,or_true→K2,not_eq_true'→Ls,and_false→Ml,or_false→Mu
open PySem.PassesOwn renaming never→Em
open PySem.Value renaming ref→Ep,none→EN,isStrOf→F0,bool→Gk,type→GW,int→Hh,str→IJ,notImplemented→Ky,isInt→Lx,float→Nn
open Option.some renaming inj→Er,injEq→Ln
open PySem.Challenge renaming pw_figuresort_k47_ordered_by_each_way→Eu,rw_figuresort_k47_ordered_by_each_way→ES
open PySem.Str renaming ofString→Ey,length→Jo,join→N5
open PyProof.Rows renaming callWith_type1→EY,slot_tuple_getitem→Fg,callWith_builtin1→LY,lt_int→NK,le_int→NL
open Int renaming toNat_natCast→E3,natCast_ediv→FF,natCast_mul→GJ,emod_nonneg→GL,zero_add→Hq,mul_lt_mul_of_pos_right→IV,fdiv_eq_ediv_of_nonneg→I0,lt_of_mul_lt_mul_right→Jf,natCast_emod→JH,eq_ofNat_of_zero_le→JI,toNat→J7,toNat_of_nonneg→KR,le_trans→K1,le_of_lt→K3,add_zero→Lf,emod_lt_of_pos→Lg,mul_left_comm→Lv,mul_pos→LD,ediv_nonneg→Mg,natCast_pos→Mi,mul_nonneg→Mr,mul_assoc→Mz,ediv_one→M6,mul_comm→Nh,lt_or_le→Nl,mul_one→Np,le_refl→NA
open Ne renaming symm→E5
open PySem.Obj renaming mapSeq→E6,data_mapFields→K4
open Or renaming inl→Fh,inr→IR
open PySem.Builtin.SmallTypes renaming nextOf→Fk,ownedTupleIsFree→FG,ownedTupleHandOut→Hn
open PySem.F renaming slot_dict_itemiterator_next→Fl,plainAttrs_list→FI,plain_max_loop→FL,plain_extend_loop→FU,slot_tuple_iterator_next→Gh,slot_list_getattribute→GK,args_dict_itemiterator_next_1→Hg,entry_dict_itemiterator_next→Ho,slot_dict_get→Ih,slot_zip_next→Ip,args_tuple_iterator_next_1→IF,slot_dict_items_iter→IH,entry_tuple_iterator_next→IS,entry_extend_loop→Js,slot_list_extend→JB,type_list_extend→JC,args_dict_get_3→JL,plainAttrs_dict→JM,plain_list_iadd→JP,slot_dict_items→JQ,entry_dict_get→Kh,entry_max_loop→Kj,args_list_extend_2→Kz,entry_list_extend→KP,slot_list_extend→KZ,args_zip_next_1→Lr,entry_zip_next→LM,slot_int_rmul→L3
open PySem.Builtin.Range renaming rangeSize→Fq,rangeFitsLong→GU,small→G8
open PySem.Around renaming under_plainId→Fu
open Option renaming map_eq_some_iff→Fw,isSome_iff_exists→Gv,getD_none→Jx,map_some→JT,toList→KJ,getD_some→LK,none→Nt
open PySem.Builtin.List renaming listTooLong→FA,listSameRef→Gx,listSubscript?→IP,listExtendWith→IW,listAllItems→Jp,listItems→Nr
open List.Perm renaming refl→FP,trans→Hf,append_left→Ie,append_right→Kc,cons→Mo,of_eq→N8
open PySem.PyData renaming keyHash→FR,strOk→JF,canLayAll0→Lu,depthAll→Md,canLay0→Mq
open Classical renaming byContradiction→FS
open False renaming elim→FW
open PySem renaming mem_of_lookup→F2,field→GM,strKind→HN,Builtin→Je,evalArgs_none→KO,call→L4,seqItems?→L8,Within→MQ,Str→NN,Fin→NT
open PySem.Calls renaming callWith_builtin→F6,spliced_cons→GI,spliced_nil→Hx,evalArgs_plain→Il,Name_function_global→IZ
open PyProof.Rows.SortSt renaming mk'→F7
open PySem.Builtin.Slice renaming slicePlaces→Gm,sliceAdjust→G9,sliceApplied→Ja,slicePartIndex→Mk,sliceFields→MN
open PySem.Builtin.Tuple renaming tupleExact→Gw,tupleCompareSizes→Ij,tupleItemsOf→Jb
open List.Pairwise renaming imp_of_mem→GA,nil→GP,filter→KF
open PySem.Builtin.Dict_items renaming ownsTuple→GT,ownedTupleIsFree→Ht,ownedTupleFields→Hu,pairFromOwner→Ia,newIterator→Me,dictOf→MO
open PySem.AutoSeq1 renaming sub_tuple_tuple→Hj,wpAny_loadPart'→Iq,list_insert_list_int_val_1→Li,list_extend_list_list_0→LI,list_reverse_list_0→Mm
open PyProof renaming noPylong_of_log2→Hl
open PySem.W.Fast renaming te14082659384304107361→Hr,te14364793385576792824→Hs
open PySem.SetTable renaming bits→HQ,runEnd→N7,Probe→Ob
open PySem.Heap.SameBut renaming update→Iw,refl→Lo
open Sum renaming inl→IC,inr→Jv
open PySem.Heap.IsSliceOf renaming new→IM
open PySem.W.KFB renaming if_not→IQ,if_so→NW
open PySem.Builtin.Builtins renaming bindParams→IU
open PySem.Paired renaming length→IY,snoc→Nz
open PySem.Builtin.Dict renaming updateFrom→JR,pairItems→Kl,showsAll→Ku,selfAndRest→Ni,noArgs→NM
open PySem.IsRange renaming new→J9
open ForIn renaming forIn→Kg
open List.cons renaming inj→KN
open PySem.SeqAt.EqAt renaming int_int→KY,int_str→NO,str_int→NP
open PySem.Data renaming fields→Ly,cell→Mt,seq→M8
open PySem.Walks renaming range→Lz,list→L6,tuple→Nu
open PySem.AutoListH renaming list___mul___list_int_3→LA
open PySem.IsL renaming isList→LJ,update→N1
open PySem.Txt renaming join→LS
open MonadState renaming get→Mp
open PyProof.Rows.IsTup renaming new→Ms
open PySem.CmpOf renaming ints_gt→Mx
open PySem.SeqAt.RcNeAt renaming lists_lengths→My,lists→NR
open PySem.Shared renaming TypeIs→MA,heap→Nw
open Function renaming comp→MB
open Int.ofNat renaming inj→MC
open PySem.EqNone renaming eq_none_none→MD,eq_none_bool→ME,eq_bool_none→MF,ne_none_none→MI,ne_none_bool→MJ,ne_bool_none→MK,eq_none_int→MS,eq_none_str→MT,eq_int_none→MU,eq_str_none→MW,ne_none_int→MY,ne_none_str→MZ,ne_int_none→M0,ne_str_none→M3
open PySem.EqMixed renaming eq_bool_str→MG,eq_str_bool→MH,ne_bool_str→ML,ne_str_bool→MM,eq_int_str→MV,eq_str_int→MX,ne_int_str→M1,ne_str_int→M4
open PySem.W.OpenLaw renaming wellSaid→MP
open PySem.SeqAt.RcAt renaming lists_lengths→Nb,tuples→NX,lists→N2
open PySem.SeqAt renaming rcNeAt_reads→Ng,EqAt→NG,eqv_refl→NI
open Sum.inl renaming inj→Nm
open PySem.MeetsSeq renaming list_pop_last→Nq
open List.Sublist renaming count_le→ND
open PySem.W.RowW renaming records→NF
open PySem.Draws renaming list→NH
open PySem.Flow renaming next→NQ
open Pure renaming pure→NS
open Lean.Name renaming mkSimple→NU
open PySem.Heap.IsTuple renaming push→NY
open PySem.Builtin.Str renaming glued→NZ
open PySem.DictEntry renaming refKey→N0
open MonadStateOf renaming set→N3
open Array.Perm renaming trans→N4,refl→N9
open PySem.Heap.DictOf renaming new→N6
open Iff renaming rfl→Oa
open PySem.NameKind renaming cell→Oc
open PySem renaming wpAny_bind→Ov,wpAny_pure→Ow,sizeLine→Ox,wpAny_holding→Oy,foldedSetIterable→Oz,wpAny_field→OA,wpAny_newObj_type→OB,compareOp→OC,wpAny_mono→OD,wpAny_callSpecial?_slot→OE,wpAny_setField_rec→OF,wpAny_call_entry→OG,assignEach→OJ,wpAny_seqItems→OK,wpAny_typeNameOfWhole_itemiter→OL,plainId_quiet→OM,binaryOp→ON,wpAny_truthy_bool→OO,wpAny_loadPart'→OP,codeAny_builtin→OQ,holding→OR,sysModules→OS,wpAny_typeNameOf_itemiter→OT,wpAny_passesOwn→OU,wpAny_updateSeq→OV,sizeLine_eq→OW,wpAny_standAt→OX,swapsWith→OY,IsPair→OZ,sliceBounds→O0,wpAny_rule→O1,wpAny_pyIter_tuple→O2,wpAny_Call_Name_kw→O3,wpAny_typeOf→O4,wpAny_pyIter_list→O5,call_meets→O6,wpAny_letGo→O7,swapsWithSole→O8,swappedStores→O9,behindInMarks→Pa,intItems→Pb,rawInt→Pc
open PyProof.Rows renaming seqObj→OH,IntsAre→OI
set_option Elab.async false
set_option maxRecDepth 100000
set_option maxHeartbeats 0
namespace Fs
open PySem PySem.Spec PyProof.Rows
local macro_rules
 | `(tactic| o_head $_)=>`(tactic| assumption)
open PySem PySem.W PyProof.Rows in
theorem Kf(h:ES.row.Holds):ES.row.Holds:=by
 w_on;k_head
open PySem PySem.W PyProof.Rows in
def asF:List Addr:=[2,3,15,17,18,20,21,22,24,25,27,28,29,31,32,34,35,36,39,40,41,43,44,46,47,48,51,52,53,55,56,58,59,60,63,64,65,68,69,70,72,73,75,76,77,79,80,82,83,84,87,88,89,92,93,94,101,102,103,104,107,114,115,116,119,126,127,128,131,133,134,136,137,138,140,141,143,144,145,147,148,150,151,152,155,156,157,159,160,162,163,164,166,167,169,170,171,174,175,176,178,179,181,182,183,186,187,188,190,191,193,194,195,197,198,200,201,202,204,205,207,208,209,211,212,214,215,216,218,219,221,222,223,226,227,228,231,232,233,236,237,238,241,242,243,245,246,248,249,250,252,253,255,256,257,260,261,262,264,265,267,268,269,272,273,274,277,278,279,282,283,284,285,286,287,289,290,292,293,294,297,298,299,301,302,304,305,306,308,309,311,312,313,315,316,318,319,320,322,323,325,326,327,329,330,332,333,334,336,337,339,340,341,343,344,346,347,348,351,352,353,355,356,358,359,360,362,363,365,366,367,370,371,372,374,375,377,378,379,381,382,384,385,386,389,390,391,394,395]
open PySem PySem.W PyProof.Rows in
@[reducible] noncomputable def jW:Hook:=kHook Kf.heap_1 asF (λ_=>by kernel_rfl)
def Dc(i:Nat):Stmt:=Eu.main.body.getD i (.Pass ⟨0,0,0,0⟩)
def vwF:Program:={ Eu with main:={ Eu.main with body:=[1,2,3,4,5,6,7,9,10,11,12,14,15,17,18,19,21,22,23,24,26,27,28,29,30,31,33,34,36,37,38,39,40,41,42,43,45,46,47,48,49,50,51,52,53,54,55,57,58,59,60,61,62,63,64,65,66,67,68,69,70,71].map Dc } }
def loF:List NN:=["AHEAD","DONE"]
def xtF(s:Shared):Bool:=PySem.W.xlAt vwF [] s && PySem.W.recOk (NF ES.row.toRowW) s
open PySem.W in
theorem AH{p q:Program}{loose:List NN}{Xt:Shared->Bool}{α:Type}{Yf:Shared->α}{Ya:World->α}{N:Nat}{g0:Bool}(row:String)
  (h:∀(b:Bool) (w:World),(fencedOpening treeTable p w N).map (λs₀=>(topFrom treeTable p (w.withFollow row b) N s₀).map (λs=>(openSeen q loose (importedModules p.main.body) Xt g0 s,Yf s)))=some (some (openGood q loose,Ya (w.withFollow row b)))):LeftO p q loose Xt Yf Ya N g0:=by
 refine LeftO.of_split row λw=>?_
 obtain⟨s,a,b⟩:=Fw.mp (h false w);obtain⟨s',a',b'⟩:=Fw.mp (h true w);rw[a]at a';cases a';rw[a,JT,b,b']
open PySem.W in
def Ai (b:Bool) (w:World):Prop:=(fencedOpening treeTable Eu w 5062).map (λs₀=>(topFrom treeTable Eu (w.withFollow "special-get-raises" b) 5062 s₀).map (λs=>(openSeen vwF loF (importedModules Eu.main.body) xtF true s,Hook.obs jW s)))=some (some (openGood vwF loF,Hook.val jW (w.withFollow "special-get-raises" b)))
theorem AI(w:World):Ai false w:=by unfold Ai LX;rw[Hr,Hs];kernel_rfl
theorem AJ(w:World):Ai true w:=by unfold Ai LX;rw[Hr,Hs];kernel_rfl
open PySem.W in
theorem AK:LeftO Eu vwF loF xtF (Hook.obs jW) (Hook.val jW) 5062:=AH "special-get-raises" λb w=>by cases b;exact AI w;exact AJ w
theorem AL:MP ES=true:=by kernel_rfl
end Fs
set_option compiler.extract_closed false
set_option Elab.async false
set_option linter.all false
set_option maxRecDepth 100000
namespace L2
open PySem PySem.Spec PyProof.Rows
noncomputable abbrev Key:=Sum Int Str
noncomputable def nB:Key->Value->Bool
 | .inl k,v=>Lx k v
 | .inr x,v=>F0 x v
noncomputable def Dd(w:World):Key->Int
 | .inl k=>hashInt k
 | .inr x=>hashStr w x
theorem bQ:∀{k:Key}{v:Value},nB k v=true->(∃i t,k=IC i/\v=Hh i t)\/(∃x t,k=Jv x/\v=IJ x t)
 | .inl i,v,h=>by
  obtain⟨t,e⟩:=Value.isInt_shape (k:=i) (v:=v) h;exact .inl ⟨i,t,rfl,e⟩
 | .inr x,v,h=>by
  obtain⟨t,e⟩:=Value.isStrOf_shape (x:=x) (v:=v) h;exact .inr ⟨x,t,rfl,e⟩
theorem oI(i:Int)(t:Tok):nB (.inl i) (.int i t)=true:=by simp[nB,Lx]
theorem oJ(x:Str)(t:Tok):nB (.inr x) (.str x t)=true:=by simp[nB,F0]
theorem xP(a b:Int):decide ((IC a:Key)=IC b)=(a == b):=by
 by_cases e:a=b
 ·subst e;simp
 ·have h:¬(IC a:Key)=IC b:=λq=>e (Nm q)
  rw[decide_eq_false h];exact(beq_eq_false_iff_ne.mpr e).symm
theorem xQ(a b:Str):decide ((Jv a:Key)=Jv b)=decide (a=b):=by
 by_cases e:a=b
 ·subst e;simp
 ·have h:¬(Jv a:Key)=Jv b:=λq=>e (Sum.inr.inj q)
  rw[decide_eq_false h,decide_eq_false e]
theorem xR(a:Int)(b:Str):decide ((IC a:Key)=Jv b)=false:=decide_eq_false (λq=>nomatch q)
theorem xS(a:Str)(b:Int):decide ((Jv a:Key)=IC b)=false:=decide_eq_false (λq=>nomatch q)
noncomputable def bp(prog:Program)(w:World):PySem.KeyKind prog w Key where
 is:=nB
 hash:=Dd w
 inj:=λv a b ha hb=>by
  rcases bQ ha with⟨i,t,rfl,rfl⟩|⟨x,t,rfl,rfl⟩
  ·rcases bQ hb with⟨j,u,rfl,e⟩|⟨y,u,rfl,e⟩
   ·injection e with e1 _;rw[e1]
   ·exact nomatch e
  ·rcases bQ hb with⟨j,u,rfl,e⟩|⟨y,u,rfl,e⟩
   ·exact nomatch e
   ·injection e with e1 _;rw[e1]
 byValue:=λk v h=>by
  rcases bQ h with⟨i,t,rfl,rfl⟩|⟨x,t,rfl,rfl⟩<;>rfl
 pyHash:=λhv h=>by
  rcases bQ hv with⟨i,t,rfl,rfl⟩|⟨x,t,rfl,rfl⟩
  ·exact wpAny_pyHash_int h
  ·exact wpAny_pyHash_str h
 eqBool:=λhu hv h=>by
  rcases bQ hu with⟨i,t,rfl,rfl⟩|⟨x,t,rfl,rfl⟩
  ·rcases bQ hv with⟨j,u,rfl,rfl⟩|⟨y,u,rfl,rfl⟩
   ·rw[xP]at h;exact wpAny_eqBool_int h
   ·rw[xR]at h;exact NO i t y u _ _ _ _ h
  ·rcases bQ hv with⟨j,u,rfl,rfl⟩|⟨y,u,rfl,rfl⟩
   ·rw[xS]at h;exact NP x t j u _ _ _ _ h
   ·rw[xQ]at h;exact wpAny_eqBool_str h
 «strs»:=λk x t v h=>by
  rcases bQ h with⟨i,u,rfl,e⟩|⟨y,u,rfl,e⟩
  ·exact nomatch e
  ·injection e with e1 _
   subst e1;cases v<;>rfl
theorem kW(prog:Program)(w:World)(i:Int)(t:Tok):(bp prog w).is (.inl i) (.int i t)=true:=oI i t
theorem kX(prog:Program)(w:World)(x:Str)(t:Tok):(bp prog w).is (.inr x) (.str x t)=true:=oJ x t
inductive V where
 | non|bl (b:Bool)|int (i:Int)|str (x:Str)|byt (b:Array UInt8)|flt (b:UInt64)|ref (a:Addr)|ty (n:String)
 deriving DecidableEq
noncomputable def RelV:V->Value->Prop
 | .non,u=>u=EN
 | .bl b,u=>u=Gk b
 | .int i,u=>∃t,u=Hh i t
 | .str x,u=>∃t,u=IJ x t
 | .byt b,u=>∃t,u=Value.bytes b t
 | .flt b,u=>∃t,u=Nn b t
 | .ref a,u=>u=Ep a
 | .ty n,u=>u=GW n
abbrev Vals:List V->List Value->Prop:=Paired RelV
theorem Vals.length{xs:List V}{us:List Value}(r:Vals xs us):xs.length=us.length:=IY r
theorem Vals.get:∀{xs:List V}{us:List Value}{i:Nat}{x:V},Vals xs us->xs[i]? = some x->∃u,us[i]? = some u/\RelV x u
 | _,_,_,_,.nil,e=>by simp at e
 | _,_,0,_,.cons r _,e=>by simp at e;subst e;exact⟨_,rfl,r⟩
 | _,_,i+1,x,.cons _ t,e=>by
  obtain⟨u,h1,h2⟩:=Vals.get (i:=i) (x:=x) t (by simpa using e);exact⟨u,by simpa using h1,h2⟩
theorem Vals.set{x:V}{u:Value}(r:RelV x u):∀{xs:List V}{us:List Value}(i:Nat),Vals xs us->Vals (xs.set i x) (us.set i u)
 | _,_,_,.nil=>.nil
 | _,_,0,.cons _ t=>.cons r t
 | _,_,i+1,.cons q t=>.cons q (Vals.set r i t)
theorem Vals.append:∀{xs ys:List V}{us ws:List Value},Vals xs us->Vals ys ws->Vals (xs++ys) (us++ws)
 | _,_,_,_,.nil,s=>s
 | _,_,_,_,.cons r t,s=>.cons r (Vals.append t s)
theorem Vals.take:∀{xs:List V}{us:List Value}(n:Nat),Vals xs us->Vals (xs.take n) (us.take n)
 | _,_,0,_=>.nil
 | _,_,_+1,.nil=>.nil
 | _,_,n+1,.cons r t=>.cons r (Vals.take n t)
theorem Vals.drop:∀{xs:List V}{us:List Value}(n:Nat),Vals xs us->Vals (xs.drop n) (us.drop n)
 | _,_,0,r=>r
 | _,_,_+1,.nil=>.nil
 | _,_,n+1,.cons _ t=>Vals.drop n t
noncomputable def RelO:Option V->Option Value->Prop
 | some v,some u=>RelV v u
 | none,none=>True
 | _,_=>False
def KV{κ:Type}:List (κ×V)->List (κ×Value)->Prop:=Paired λ(p:κ×V) (q:κ×Value)=>p.1=q.1/\RelV p.2 q.2
noncomputable def kV:Key->V
 | .inl i=>.int i
 | .inr x=>.str x
inductive HO where
 /-- a list -/
 | lst (xs:List V)
 /-- a tuple (never changes) -/
 | tup (xs:List V)
 /-- a dict whose keys are ints and texts;one whose keys are tuples of ints and texts (the empty one is both) -/
 | dK (kvs:List (Key×V))|dT (kvs:List (List Key×V))
 /-- a set of ints: its members,its size -/
 | set (S:Int->Bool) (n:Nat)
 /-- an instance of the class at C,its dict at dx,its attributes -/
 | ins (C dx:Addr) (fs:List (Str×V))
 /-- the dict of the instance at x -/
 | own (x:Addr)
 /-- the dict of an exception -/
 | xd (fs:List (Str×V))
 /-- a bound method,f of x -/
 | met (f x:Addr)
 /-- a range object lo,lo+1,.. below hi -/
 | rng (lo hi:Int)
 /-- a thing that is known to the object (the script;a dict while a loop walks it): read,never written while it is so -/
 | frz (o:Obj) (u:HO)
 /-- a code object's table -/
 | tbl (ps:Array Value)
 /-- any other thing,by what is true of its one object (a def of one's own: SetO a S n:=HO.ext λh=>..) -/
 | ext (φ:Heap->Prop)
noncomputable abbrev Hp:=Addr->Option HO
noncomputable def upd(H:Hp)(a:Addr)(o:HO):Hp:=λb=>if b=a then some o else H b
theorem aj{H:Hp}{a:Addr}{o:HO}:upd H a o a=some o:=by unfold upd;rw[if_pos rfl]
theorem aB{H:Hp}{a b:Addr}{o:HO}(h:b≠a):upd H a o b=H b:=by unfold upd;rw[if_neg h]
theorem iC{H:Hp}{a b:Addr}{o u:HO}(h:H a=some o)(h':H b=some u)(d:o≠u):a≠b:=by
 intro e;subst e;rw[h]at h';exact d (Er h')
theorem ay{H:Hp}{a b:Addr}{o:HO}(h:H a=some o)(h':H b=none):a≠b:=by
 intro e;subst e;rw[h]at h';cases h'
section
variable(P:Program)(w:World)
noncomputable def ObjOk(H:Hp)(h:Heap)(a:Addr):HO->Prop
 | .lst xs=>xs.length<=Ox/\∃(its:List Value) (n:Nat),Vals xs its/\h.get? a=some { cls:=.type "list",data:=.seq its.toArray n }
 | .tup xs=>xs.length<=Ox/\∃its:List Value,Vals xs its/\IsTup h a its.toArray
 | .dK kvs=>kvs.length<=Ox/\(a == OS)=false/\∃vs,KV kvs vs/\h.DictOf (bp P w) a vs
 | .dT kvs=>kvs.length<=Ox/\(a == OS)=false/\∃xs:List (List Key×Addr×Value),
   Paired (λ(p:List Key×V) (q:List Key×Addr×Value)=>p.1=q.1/\H q.2.1=some (.tup (p.1.map kV))/\RelV p.2 q.2.2) kvs xs/\
   ∃o es ep,h.get? a=some o/\o.ExactDict/\o.data=.dict es ep/\es.toList=xs.map (entryOfKey (tupleKind (bp P w)))/\(xs.map (·.1)).Nodup
 | .set S n=>h.SetOf (intKind P w) a S n
 | .ins C dx fs=>H dx=some (.own a)/\fs.length<=1000/\dx≠a/\h.get? a=some (JU C dx)/\
   ∃mA,h.Ns1 dx mA/\(∀f,RelO (fs.lookup f) (mA f))/\MQ mA (fs.map (·.1))
 | .own _=>∃o,h.get? a=some o
 | .xd fs=>∃mA,h.Ns1 a mA/\∀f,RelO (fs.lookup f) (mA f)
 | .rng lo hi=>∃t u v,h.get? a=some { cls:=.type "range",data:=.fields #[.int lo t,.int hi u,.int 1 v] }
 | .frz o u=>h.get? a=some o/\ObjOk H h a u
 | .tbl ps=>h.get? a=some { cls:=.none,data:=.fields ps }
 | .met f x=>h.get? a=some (Jg (.ref f) (.ref x))
 | .ext φ=>φ h/\(∃o,h.get? a=some o)/\∀h1 h2:Heap,φ h1->(∀o,h1.get? a=some o->h2.get? a=some o)->φ h2
def HOk(H:Hp)(h:Heap):Prop:=∀a o,H a=some o->ObjOk P w H h a o
end
section
variable{P:Program}{w:World}{H H':Hp}{h h':Heap}{a:Addr}{o:HO}
theorem ObjOk.lt(x:ObjOk P w H h a o):a<h.objs.size:=by
 cases o with
 | lst xs=>obtain⟨_,_,_,_,e⟩:=x;exact D2 e
 | tup xs=>obtain⟨_,_,_,p⟩:=x;exact p.lt
 | dK kvs=>obtain⟨_,_,_,_,o,_,_,e,_⟩:=x;exact D2 e
 | dT kvs=>obtain⟨_,_,_,_,o,_,_,e,_⟩:=x;exact D2 e
 | set S n=>obtain⟨o,_,_,_,e,_⟩:=x;exact D2 e
 | ins C dx fs=>obtain⟨_,_,_,e,_⟩:=x;exact D2 e
 | own y=>obtain⟨_,e⟩:=x;exact D2 e
 | xd fs=>obtain⟨_,⟨_,_,_,e,_⟩,_⟩:=x;exact D2 e
 | rng lo hi=>obtain⟨_,_,_,e⟩:=x;exact D2 e
 | frz ob u=>obtain⟨e,_⟩:=x;exact D2 e
 | tbl ps=>exact D2 (show h.get? a=some _ from x)
 | met f y=>exact D2 (show h.get? a=some _ from x)
 | ext φ=>obtain⟨_,⟨_,e⟩,_⟩:=x;exact D2 e
theorem Paired.mapP{α β:Type}{F G:α->β->Prop}:∀{l₁:List α}{l₂:List β},Paired F l₁ l₂->(∀a b,F a b->G a b)->Paired G l₁ l₂
 | _,_,.nil,_=>.nil
 | _,_,.cons r t,f=>.cons (f _ _ r) (Paired.mapP t f)
theorem ObjOk.stay(x:ObjOk P w H h a o)(k:∀b u,(b=a\/H b=some (.own a))->h.get? b=some u->h'.get? b=some u)
  (ho:∀b,H b=some (.own a)->H' b=some (.own a)) (ht:∀b xs,H b=some (.tup xs)->H' b=some (.tup xs)):ObjOk P w H' h' a o:=by
 induction o with
 | lst xs=>obtain⟨z,its,n,r,e⟩:=x;exact⟨z,its,n,r,k _ _ (.inl rfl) e⟩
 | tup xs=>obtain⟨z,its,r,ob,e,c⟩:=x;exact⟨z,its,r,ob,k _ _ (.inl rfl) e,c⟩
 | dK kvs=>obtain⟨z,y,vs,r,ob,es,ep,e,c⟩:=x;exact⟨z,y,vs,r,ob,es,ep,k _ _ (.inl rfl) e,c⟩
 | dT kvs=>
  obtain⟨z,y,xs,r,ob,es,ep,e,c⟩:=x;exact⟨z,y,xs,Paired.mapP r λp q z=>⟨z.1,ht _ _ z.2.1,z.2.2⟩,ob,es,ep,k _ _ (.inl rfl) e,c⟩
 | set S n=>obtain⟨ob,es,ep,t,e,c⟩:=x;exact⟨ob,es,ep,t,k _ _ (.inl rfl) e,c⟩
 | ins C dx fs=>
  obtain⟨d,z,ne,e,mA,⟨od,es,ep,e2,c⟩,r⟩:=x;exact⟨ho _ d,z,ne,k _ _ (.inl rfl) e,mA,⟨od,es,ep,k _ _ (.inr d) e2,c⟩,r⟩
 | own y=>obtain⟨ob,e⟩:=x;exact⟨ob,k _ _ (.inl rfl) e⟩
 | xd fs=>obtain⟨mA,⟨od,es,ep,e,c⟩,r⟩:=x;exact⟨mA,⟨od,es,ep,k _ _ (.inl rfl) e,c⟩,r⟩
 | rng lo hi=>obtain⟨t,u,v,e⟩:=x;exact⟨t,u,v,k _ _ (.inl rfl) e⟩
 | frz ob u ih=>obtain⟨e,q⟩:=x;exact⟨k _ _ (.inl rfl) e,ih q⟩
 | tbl ps=>
  have e:h.get? a=some { cls:=.none,data:=.fields ps }:=x;show h'.get? a=some { cls:=.none,data:=.fields ps }
  exact k a _ (.inl rfl) e
 | met f y=>
  have e:h.get? a=some (Jg (.ref f) (.ref y)):=x;show h'.get? a=some (Jg (.ref f) (.ref y))
  exact k a _ (.inl rfl) e
 | ext φ=>obtain⟨p,⟨o,e⟩,st⟩:=x;exact⟨st _ _ p λo q=>k _ _ (.inl rfl) q,⟨o,k _ _ (.inl rfl) e⟩,st⟩
theorem HOk.lt(x:HOk P w H h)(e:H a=some o):a<h.objs.size:=(x a o e).lt
theorem HOk.fresh(x:HOk P w H h)(e:h.objs.size<=a):H a=none:=by
 cases q:H a with
 | none=>rfl
 | some u=>exact absurd (El (x.lt q) e) (E9 _)
theorem HOk.kept(x:HOk P w H h)(k:∀b u,h.get? b=some u->h'.get? b=some u):HOk P w H h':=λa o e=>
 (x a o e).stay (λb u _ q=>k b u q) (λ_ q=>q) λ_ _ q=>q
theorem HOk.laid(x:HOk P w H h)(k:∀b u,h.get? b=some u->h'.get? b=some u)(hp:h.objs.size<=a)(new:ObjOk P w (upd H a o) h' a o):HOk P w (upd H a o) h':=λb u e=>by
 have hn:=x.fresh hp;by_cases hb:b=a
 ·subst hb;rw[aj]at e;cases e;exact new
 ·rw[aB hb]at e
  exact(x b u e).stay (λc v _ q=>k c v q) (λc q=>by rw[aB (ay q hn)];exact q) λc xs q=>by rw[aB (ay q hn)];exact q
end
def Rd(H:Hp)(a:Addr)(u:HO):Prop:=H a=some u\/∃o,H a=some (.frz o u)
theorem Rd.ok{P:Program}{w:World}{H:Hp}{h:Heap}{a:Addr}{u:HO}(r:Rd H a u)(x:HOk P w H h):ObjOk P w H h a u:=by
 rcases r with r|⟨o,r⟩
 ·exact x a u r
 ·obtain⟨_,q⟩:=x a _ r
  exact q
noncomputable def Mut:Option HO->Prop
 | some (.lst _)=>True
 | some (.dK _)=>True
 | some (.dT _)=>True
 | some (.set _ _)=>True
 | some (.ins _ _ _)=>True
 | some (.ext _)=>True
 | _=>False
section
variable{P:Program}{w:World}{H:Hp}{h h':Heap}{x e:Addr}{o':HO}
theorem HOk.write(ok:HOk P w H h)(mu:Mut (H x))(he:e=x\/H e=some (.own x))(k:∀b u,b≠e->h.get? b=some u->h'.get? b=some u)(heo:∃u,h'.get? e=some u)
  (new:ObjOk P w (upd H x o') h' x o'):HOk P w (upd H x o') h':=λb u q=>by
 have nown:∀c y,H c=some (.own y)->c≠x:=λc y r z=>by subst z;rw[r]at mu;exact mu
 have ntup:∀c xs,H c=some (.tup xs)->c≠x:=λc xs r z=>by subst z;rw[r]at mu;exact mu
 by_cases hb:b=x
 ·subst hb;rw[aj]at q;cases q;exact new
 ·rw[aB hb]at q
  by_cases hbe:b=e
  ·have q':H b=some (.own x):=by
    rcases he with z|z
    ·exact absurd (hbe.trans z) hb
    ·rw[hbe];exact z
   rw[q]at q';cases q';obtain⟨v,hv⟩:=heo;exact⟨v,by rw[hbe];exact hv⟩
  ·refine(ok b u q).stay (λc v hc r=>k c v ?_ r) (λc r=>by rw[aB (nown c b r)];exact r) λc xs r=>by rw[aB (ntup c xs r)];exact r
   rcases hc with rfl|hc
   ·exact hbe
   ·rintro rfl
    rcases he with z|z
    ·exact nown c b hc z
    ·rw[hc]at z;cases z;exact hb rfl
end
structure Un (fs ex:List Addr) (H H':Hp) (h h':Heap):Prop where
 keep:∀b o,h.get? b=some o->H b=none->b∉fs->b∉ex->h'.get? b=some o
 slot:∀b o,h.get? b=some o->H b=none->b∈fs->b∉ex->∃sl,h'.get? b=some { o with slots:=sl }
 free:∀b o,h.get? b=some o->H b=none->b∉ex->H' b=none
 there:∀b o,h.get? b=some o->b∉ex->∃o',h'.get? b=some o'
 tups:∀b xs,H b=some (.tup xs)->H' b=some (.tup xs)
 frzs:∀b o u,H b=some (.frz o u)->H' b=some (.frz o u)
 tbls:∀b ps,H b=some (.tbl ps)->∃more,H' b=some (.tbl (ps++more))
section
variable{fs fs' ex ex':List Addr}{H H1 H2:Hp}{h h1 h2 h':Heap}{a x e:Addr}{o:HO}
theorem Un.any(u:Un fs ex H H1 h h1){b:Addr}{ob:Obj}(q:h.get? b=some ob)(n:H b=none)(hx:b∉ex):∃sl,h1.get? b=some { ob with slots:=sl }:=by
 by_cases hb:b∈fs
 ·exact u.slot b ob q n hb hx
 ·exact⟨ob.slots,u.keep b ob q n hb hx⟩
theorem Un.kept(k:∀b u,h.get? b=some u->h'.get? b=some u):Un fs ex H H h h':=
 ⟨λb ob q _ _ _=>k b ob q,λb ob q _ _ _=>⟨ob.slots,k b ob q⟩,λ_ _ _ n _=>n,λb ob q _=>⟨ob,k b ob q⟩,λ_ _ q=>q,λ_ _ _ q=>q,λ_ ps q=>⟨#[],by rw[q];simp⟩⟩
theorem Un.refl:Un fs ex H H h h:=Un.kept λ_ _ q=>q
theorem Un.laid(k:∀b u,h.get? b=some u->h'.get? b=some u)(hp:h.objs.size<=a)(hn:H a=none):Un fs ex H (upd H a o) h h' where
 keep:=λb u q _ _ _=>k b u q
 slot:=λb u q _ _ _=>⟨u.slots,k b u q⟩
 free:=λb u q n _=>by rw[aB (Eh (El (D2 q) hp))];exact n
 there:=λb u q _=>⟨u,k b u q⟩
 tups:=λb xs q=>by rw[aB (ay q hn)];exact q
 frzs:=λb u xs q=>by rw[aB (ay q hn)];exact q
 tbls:=λb ps q=>⟨#[],by rw[aB (ay q hn),q];simp⟩
theorem Un.write(mu:Mut (H x))(he:e=x\/H e=some (.own x))(k:∀b u,b≠e->h.get? b=some u->h'.get? b=some u)(heo:∃u,h'.get? e=some u):Un fs ex H (upd H x o) h h':=by
 have hx:∀b,H b=none->b≠x:=λb n z=>by subst z;rw[n]at mu;exact mu
 have hb:∀b,H b=none->b≠e:=λb n z=>by
  subst z;rcases he with r|r
  ·exact hx b n r
  ·rw[n]at r;cases r
 have hm:∀b u,H b=some u->¬Mut (some u)->b≠x:=λb u q nm z=>by subst z;rw[q]at mu;exact nm mu
 refine⟨λb u q n _ _=>k b u (hb b n) q,λb u q n _ _=>⟨u.slots,k b u (hb b n) q⟩,λb u q n _=>by rw[aB (hx b n)];exact n,λb u q _=>?_,
  λb xs q=>by rw[aB (hm b _ q λz=>z)];exact q,λb u xs q=>by rw[aB (hm b _ q λz=>z)];exact q,λb ps q=>⟨#[],by rw[aB (hm b _ q λz=>z),q];simp⟩⟩
 by_cases hbe:b=e
 ·subst hbe;exact heo
 ·exact⟨u,k b u hbe q⟩
end
noncomputable def trk(h:Heap)(H:Hp):List Addr:=(DZ h.objs.size).filter λa=>(H a).isSome
noncomputable def rB(h:Heap)(H:Hp):Heap:=PySem.W.hideAll h (trk h H)
theorem oK(h:Heap)(H:Hp):(rB h H).objs.size=h.objs.size:=PySem.W.hideAll_size _ _
theorem rD{h:Heap}{H:Hp}{b:Addr}{o:Obj}(e:h.get? b=some o)(n:H b=none):(rB h H).get? b=some o:=
 PySem.W.hideAll_get _ e λhm=>by
  have q:(H b).isSome=true:=(EI.mp hm).2;rw[n]at q;simp at q
theorem u6{h:Heap}{H:Hp}{b:Addr}{o:Obj}(e:(rB h H).get? b=some o):h.get? b=some o/\H b=none:=by
 have e':h.get? b=some o:=PySem.W.of_hideAll (trk h H) e;refine⟨e',?_⟩;cases q:H b with
 | none=>rfl
 | some x=>
  have hm:b∈trk h H:=EI.mpr ⟨EF.mpr (D2 e'),by simp[q]⟩;have z:(rB h H).get? b=none:=PySem.W.hideAll_none (trk h H) hm;rw[z]at e;cases e
noncomputable def u7(g h:Heap)(L:Addr):List (Addr×Obj):=(DZ h.objs.size).filterMap λa=>if a=L\/(g.get? a).isSome=true then none else(h.get? a).map λo=>(a,o)
noncomputable def rest(g h:Heap)(L d:Addr):List (Addr×Obj):=(u7 g h L).filter λp=>decide (p.1≠d)
structure Mod (K:DU) (mg:Str->Option Value) (base:Heap):Prop where
 kin:K.In base
 glob:base.Ns mainGlobals mg
 blt:∃mb,base.Ns builtinsNs mb/\∀x:Str,x≠"__name__"->mb x=bootBuiltins x
 nolimit:base.NoLimit
/-- the context: a def's body (or a comprehension's block) running. base: fixed through the whole law;s₀,H₀: the entry;outer: the frames whose slots others may change (a def's callers);stack: all frames that run;
   ex: iterators that were made ahead of the entry and are walked here (a comprehension's);fn: the names whose cells were made at the entry (a def: all;a comprehension's block: its own);calm: not within an except suite;pn: pins that every state bears;xe: what is wanted of an exception that leaves the code -/
structure Cx where
 prog:Program
 w:World
 K:DU
 mg:Str->Option Value
 base:Heap
 A:Around
 N:List Str
 s₀:Shared
 H₀:Hp
 env:Env
 outer:List Env
 stack:List Env
 ex:List Addr
 fn:Str->Bool
 calm:Bool
 pn:List (Addr×Obj)
 xe:Value->Shared->Prop
noncomputable def frs(l:List Env):List Addr:=l.filterMap (·.frame)
noncomputable abbrev Cx.fs(X:Cx):List Addr:=frs X.outer
def Vis(sc:Scope)(x:Str):Prop:=sc.names.lookup x=some .local\/sc.names.lookup x=some .cell\/sc.names.lookup x=some .free
def Loc(sc:Scope)(x:Str):Prop:=sc.names.lookup x=some .local\/sc.names.lookup x=some .cell
def De(env:Env)(h:Heap)(m:Str->Option Value)(x:Str)(u:Value):Prop:=
 (env.kindOf x=some .local/\m x=some u)\/((env.kindOf x=some .cell\/env.kindOf x=some .free)/\∃c,env.cells.lookup x=some c/\h.IsCell c (some u))
structure Cx.Ok (X:Cx):Prop where
 mod:Mod X.K X.mg X.base
 kind:X.env.scope.kind=.function
 glob:X.env.globals=mainGlobals
 blt:X.env.builtins=builtinsNs
 above:X.s₀.heap.objs.size<=X.env.locals
 inj:∀x y c,X.env.cells.lookup x=some c->X.env.cells.lookup y=some c->x=y
 has:∀x,(X.env.kindOf x=some .cell\/X.env.kindOf x=some .free)->∃c,X.env.cells.lookup x=some c
 cab:∀x c,X.fn x=true->X.env.cells.lookup x=some c->X.s₀.heap.objs.size<=c
 hd:X.calm=true->X.A.handled=none
 frames:X.A.frames=some X.stack
 stk:X.stack=X.outer\/(X.stack=X.env::X.outer/\X.env.frame=some X.env.locals)
 exf:∀b∈X.ex,b≠X.env.locals/\∀x c,X.env.cells.lookup x=some c->c≠b
 bs:∀b o,X.base.get? b=some o->X.s₀.heap.get? b=some o/\X.H₀ b=none
 bsz:X.base.objs.size<=X.s₀.heap.objs.size
 noex:∀b o,X.base.get? b=some o->b∉X.ex
 exfs:∀b∈X.ex,b∉X.fs
 funs:X.s₀.heap.FunFrames X.base X.outer
 frf:∀b∈X.fs,X.H₀ b=none
structure Inv (X:Cx) (pins:List (Addr×Obj)) (σ:List (Option V)) (H:Hp) (s:Shared):Prop where
 ok:X.Ok
 os:s.os=X.s₀.os
 bare:AllBare s.gens
 base:Un X.fs X.ex X.H₀ H X.s₀.heap s.heap
 loc:∃m,s.heap.Ns X.env.locals m/\∀(i:Nat) (x:Str) (v:V),X.N[i]? = some x->σ[i]? = some (some v)->Vis X.env.scope x->∃u,RelV v u/\De X.env s.heap m x u
 cell:∀x c,X.env.cells.lookup x=some c->∃v,s.heap.IsCell c v
 free:H X.env.locals=none
 freeC:∀x c,X.env.cells.lookup x=some c->H c=none
 pin:∀p∈X.pn++pins,s.heap.get? p.1=some p.2/\H p.1=none/\p.1≠X.env.locals/\p.1∉X.fs/\∀v,p.2.data≠.cell v
 hok:HOk X.prog X.w H s.heap
 len:σ.length=X.N.length
section
variable{X:Cx}{pins:List (Addr×Obj)}{σ:List (Option V)}{H H':Hp}{s:Shared}{h':Heap}
theorem Cx.Ok.nofr(ok:X.Ok){b:Addr}{o:Obj}(e:X.base.get? b=some o):b∉X.fs:=λhb=>by
 have:=(ok.funs.mem hb).1;rw[e]at this;cases this
theorem Inv.bs(I:Inv X pins σ H s):∀b o,X.base.get? b=some o->s.heap.get? b=some o/\H b=none:=λb o e=>
 ⟨I.base.keep b o (I.ok.bs b o e).1 (I.ok.bs b o e).2 (I.ok.nofr e) (I.ok.noex b o e),I.base.free b o (I.ok.bs b o e).1 (I.ok.bs b o e).2 (I.ok.noex b o e)⟩
theorem Inv.bk(I:Inv X pins σ H s):∀b o,X.base.get? b=some o->s.heap.get? b=some o:=λb o e=>(I.bs b o e).1
theorem Inv.mod(I:Inv X pins σ H s):Mod X.K X.mg X.base:=I.ok.mod
theorem Inv.kIn(I:Inv X pins σ H s):X.K.In s.heap:=I.ok.mod.kin.keeps I.bk
theorem Inv.lt(I:Inv X pins σ H s):X.env.locals<s.heap.objs.size:=let⟨_,hn,_⟩:=I.loc;hn.lt
theorem Inv.sz(I:Inv X pins σ H s):X.s₀.heap.objs.size<=s.heap.objs.size:=ET I.ok.above (Fv I.lt)
theorem Inv.nofs(I:Inv X pins σ H s){a:Addr}(h:s.heap.objs.size<=a):a∉X.fs:=λhb=>by
 obtain⟨_,o,ho,_⟩:=I.ok.funs.mem hb;exact absurd (El (D2 ho) (ET I.sz h)) (E9 _)
theorem Inv.cne(I:Inv X pins σ H s):∀x c,X.env.cells.lookup x=some c->c≠X.env.locals:=λx c e z=>by
 obtain⟨v,o,ho,hd⟩:=I.cell x c e;obtain⟨m,⟨o',es,ep,ho',hd',_⟩,_⟩:=I.loc;rw[z,ho']at ho;cases ho;rw[hd']at hd;cases hd
theorem Inv.funs(I:Inv X pins σ H s):s.heap.FunFrames X.base X.outer:=by
 have all:∀(l:List Env),(∀b∈frs l,b∈X.fs)->X.s₀.heap.FunFrames X.base l->s.heap.FunFrames X.base l:=by
  intro l
  induction l with
  | nil=>intro _ _;trivial
  | cons env r ih=>
   intro hs hl;obtain⟨hk,⟨L,o,hf,hn,ho,hd⟩,hr⟩:=hl;have hL:L∈X.fs:=hs L (by unfold frs;rw[Iv,hf];exact Es);obtain⟨sl,e⟩:=I.base.slot L o ho (I.ok.frf L hL) hL λz=>I.ok.exfs L z hL
   exact⟨hk,⟨L,_,hf,hn,e,hd⟩,ih (λb hb=>hs b (by unfold frs;rw[Iv,hf];exact En _ hb)) hr⟩
 exact all X.outer (λ_ hb=>hb) I.ok.funs
theorem Inv.stack(I:Inv X pins σ H s):s.heap.FunFrames X.base X.stack:=by
 rcases I.ok.stk with e|⟨e,hf⟩
 ·rw[e];exact I.funs
 ·rw[e]
  obtain⟨m,hn,_⟩:=I.loc;refine .cons (by rw[I.ok.kind];decide) hf hn ?_ I.funs;exact Heap.get?_none_of_le (ET I.ok.bsz I.ok.above)
theorem Inv.stkSub(I:Inv X pins σ H s):∀b∈frs X.stack,b∈X.env.locals::X.fs:=λb hb=>by
 rcases I.ok.stk with e|⟨e,hf⟩
 ·rw[e]at hb;exact En _ hb
 ·rw[e]at hb
  unfold frs at hb;rw[Iv,hf]at hb;exact hb
theorem Inv.stkFree(I:Inv X pins σ H s):∀b∈frs X.stack,H b=none:=λb hb=>by
 rcases Eb.mp (I.stkSub b hb)with e|hb
 ·rw[e];exact I.free
 ·obtain⟨_,o,ho,_⟩:=I.ok.funs.mem hb
  exact I.base.free b o ho (I.ok.frf b hb) λz=>I.ok.exfs b z hb
theorem Inv.step{g':Array GenState}{t':Nat}{d':Drawn}{ch:List Addr}(I:Inv X pins σ H s)
  (hch:∀b∈ch,(b∈X.ex\/X.s₀.heap.objs.size<=b)/\b≠X.env.locals/\(∀x c,X.env.cells.lookup x=some c->c≠b)/\∀p∈X.pn++pins,p.1≠b)
  (keep:∀b o,b≠X.env.locals->b∉X.fs->b∉ch->s.heap.get? b=some o->H b=none->h'.get? b=some o)
  (slot:∀b o,b≠X.env.locals->b∈X.fs->b∉ch->s.heap.get? b=some o->H b=none->∃sl,h'.get? b=some { o with slots:=sl }) (free:∀b o,b∉ch->s.heap.get? b=some o->H b=none->H' b=none)
  (there:∀b o,b∉ch->s.heap.get? b=some o->∃o',h'.get? b=some o')
  (tups:∀b xs,H b=some (.tup xs)->H' b=some (.tup xs)) (frzs:∀b o u,H b=some (.frz o u)->H' b=some (.frz o u)) (tbls:∀b ps,H b=some (.tbl ps)->∃more,H' b=some (.tbl (ps++more)))
  (ns:∀m,s.heap.Ns X.env.locals m->h'.Ns X.env.locals m) (hok:HOk X.prog X.w H' h') (hg:AllBare g') :
  Inv X pins σ H' { s with heap:=h',gens:=g',drawn:=d',toks:=t' }:=by
 have neL:∀b o,X.s₀.heap.get? b=some o->b≠X.env.locals:=λb o e=>Eh (El (D2 e) I.ok.above)
 have neC:∀b o,X.s₀.heap.get? b=some o->b∉X.ex->b∉ch:=λb o e hx hb=>by
  rcases(hch b hb).1 with z|z
  ·exact hx z
  ·exact absurd (El (D2 e) z) (E9 _)
 have cellK:∀x c,X.env.cells.lookup x=some c->∀v,s.heap.IsCell c v->h'.IsCell c v:=λx c e v ⟨o,ho,hd⟩=>by
  have nch:c∉ch:=λz=>(hch c z).2.2.1 x c e rfl
  by_cases hc:c∈X.fs
  ·obtain⟨sl,q⟩:=slot c o (I.cne x c e) hc nch ho (I.freeC x c e)
   exact⟨_,q,hd⟩
  ·exact⟨o,keep c o (I.cne x c e) hc nch ho (I.freeC x c e),hd⟩
 refine⟨I.ok,I.os,hg,⟨λb o e n hb hx=>?_,λb o e n hb hx=>?_,λb o e n hx=>?_,λb o e hx=>?_,λb xs e=>tups b xs (I.base.tups b xs e),λb o xs e=>frzs b o xs (I.base.frzs b o xs e),λb ps e=>?_⟩,?_,λx c e=>?_,?_,λx c e=>?_,λp hp=>?_,hok,I.len⟩
 ·exact keep b o (neL b o e) hb (neC b o e hx) (I.base.keep b o e n hb hx) (I.base.free b o e n hx)
 ·obtain⟨sl,e1⟩:=I.base.slot b o e n hb hx
  obtain⟨sl',e2⟩:=slot b _ (neL b o e) hb (neC b o e hx) e1 (I.base.free b o e n hx);exact⟨sl',e2⟩
 ·obtain⟨o',e1⟩:=I.base.there b o e hx
  exact free b o' (neC b o e hx) e1 (I.base.free b o e n hx)
 ·obtain⟨o',e1⟩:=I.base.there b o e hx
  exact there b o' (neC b o e hx) e1
 ·obtain⟨m1,e1⟩:=I.base.tbls b ps e
  obtain⟨m2,e2⟩:=tbls b _ e1;exact⟨m1++m2,by rw[e2,Array.append_assoc]⟩
 ·obtain⟨m,hn,hl⟩:=I.loc
  refine⟨m,ns m hn,λi x v e1 e2 e3=>?_⟩;obtain⟨u,r,l⟩:=hl i x v e1 e2 e3;refine⟨u,r,?_⟩;rcases l with l|⟨k,c,e,z⟩
  ·exact .inl l
  ·exact .inr ⟨k,c,e,cellK x c e _ z⟩
 ·obtain⟨v,z⟩:=I.cell x c e
  exact⟨v,cellK x c e v z⟩
 ·obtain⟨m,⟨o,_,_,ho,_⟩,_⟩:=I.loc
  exact free _ o (λz=>(hch _ z).2.1 rfl) ho I.free
 ·obtain⟨v,o,ho,hd⟩:=I.cell x c e
  exact free c o (λz=>(hch c z).2.2.1 x c e rfl) ho (I.freeC x c e)
 ·obtain⟨e,n,ne,nf,d⟩:=I.pin p hp
  have nch:p.1∉ch:=λz=>(hch p.1 z).2.2.2 p hp rfl
  exact⟨keep p.1 p.2 ne nf nch e n,free p.1 p.2 nch e n,ne,nf,d⟩
theorem Inv.un{t':Nat}(I:Inv X pins σ H s)(u:Un X.fs [] H H' s.heap h')(hok:HOk X.prog X.w H' h'):Inv X pins σ H' { s with heap:=h',toks:=t' }:=by
 obtain⟨m,⟨o,es,ep,ho,r⟩,_⟩:=id I.loc;obtain⟨sl,hL⟩:=u.any ho I.free (by simp);exact I.step (g':=s.gens) (d':=s.drawn) (ch:=[]) (λ_ z=>nomatch z) (λb o _ hb _ e n=>u.keep b o e n hb (by simp)) (λb o _ hb _ e n=>u.slot b o e n hb (by simp)) (λb o _ e n=>u.free b o e n (by simp)) (λb o _ e=>u.there b o e (by simp)) u.tups u.frzs u.tbls (λm' hm=>by
  obtain⟨o',es',ep',ho',r'⟩:=hm;rw[ho]at ho';cases ho';exact⟨_,es',ep',hL,r'⟩) hok I.bare
theorem Inv.call{g':Array GenState}{t':Nat}{d':Drawn}{ch:List Addr}(I:Inv X pins σ H s)(u:Un (frs X.stack) ch H H' s.heap h')(hok:HOk X.prog X.w H' h')(hg:AllBare g')
  (hch:∀b∈ch,(b∈X.ex\/X.s₀.heap.objs.size<=b)/\b≠X.env.locals/\(∀x c,X.env.cells.lookup x=some c->c≠b)/\∀p∈X.pn++pins,p.1≠b) :
  Inv X pins σ H' { s with heap:=h',gens:=g',drawn:=d',toks:=t' }:=by
 obtain⟨m,⟨o,es,ep,ho,r⟩,_⟩:=id I.loc;obtain⟨sl,hL⟩:=u.any ho I.free λz=>(hch _ z).2.1 rfl
 exact I.step (ch:=ch) hch (λb o hL hb hc e n=>u.keep b o e n (λz=>(Eb.mp (I.stkSub b z)).elim hL hb) hc) (λb o _ _ hc e n=>u.any e n hc) (λb o hc e n=>u.free b o e n hc) (λb o hc e=>u.there b o e hc) u.tups u.frzs u.tbls (λm' hm=>by
  obtain⟨o',es',ep',ho',r'⟩:=hm;rw[ho]at ho';cases ho';exact⟨_,es',ep',hL,r'⟩) hok hg
theorem Inv.turned{t':Nat}{it:Addr}(I:Inv X pins σ H s)(k:∀b o,b≠it->s.heap.get? b=some o->h'.get? b=some o)(hn:H it=none)(hL:it≠X.env.locals)
  (h1:it∈X.ex\/X.s₀.heap.objs.size<=it) (h2:∀x c,X.env.cells.lookup x=some c->c≠it) (h3:∀p∈X.pn++pins,p.1≠it):Inv X pins σ H { s with heap:=h',toks:=t' }:=by
 have nit:∀b u,H b=some u->b≠it:=λb u e z=>by rw[z,hn]at e;cases e
 refine I.step (g':=s.gens) (d':=s.drawn) (ch:=[it]) (λb hb=>?_) (λb o _ _ hc e _=>k b o (λz=>hc (by simp[z])) e) (λb o _ _ hc e _=>⟨o.slots,k b o (λz=>hc (by simp[z])) e⟩) (λ_ _ _ _ n=>n)
  (λb o hc e=>⟨o,k b o (λz=>hc (by simp[z])) e⟩) (λ_ _ e=>e) (λ_ _ _ e=>e) (λb ps e=>⟨#[],by rw[e];simp⟩) (λm hm=>?_) (λb u e=>?_) I.bare
 ·have e:b=it:=by simpa using hb
  subst e;exact⟨h1,hL,h2,h3⟩
 ·obtain⟨o,es,ep,ho,r⟩:=hm
  exact⟨o,es,ep,k _ o (E5 hL) ho,r⟩
 ·refine(I.hok b u e).stay (λc v hc q=>k c v ?_ q) (λ_ q=>q) λ_ _ q=>q
  rcases hc with z|z
  ·rw[z];exact nit b u e
  ·exact nit c _ z
theorem Inv.tok(I:Inv X pins σ H s)(t:Nat):Inv X pins σ H { s with toks:=t }:=I.un (h':=s.heap) (t':=t) Un.refl I.hok
theorem Inv.kept{t':Nat}(I:Inv X pins σ H s)(k:∀b u,s.heap.get? b=some u->h'.get? b=some u):Inv X pins σ H { s with heap:=h',toks:=t' }:=I.un (Un.kept k) (I.hok.kept k)
theorem Inv.laid{a:Addr}{o:HO}{t':Nat}(I:Inv X pins σ H s)(k:∀b u,s.heap.get? b=some u->h'.get? b=some u)(hp:s.heap.objs.size<=a)(new:ObjOk X.prog X.w (upd H a o) h' a o):
  Inv X pins σ (upd H a o) { s with heap:=h',toks:=t' }:=I.un (Un.laid k hp (I.hok.fresh hp)) (I.hok.laid k hp new)
theorem Inv.write{x e:Addr}{o:HO}{t':Nat}(I:Inv X pins σ H s)(mu:Mut (H x))(he:e=x\/H e=some (.own x))(k:∀b u,b≠e->s.heap.get? b=some u->h'.get? b=some u)(heo:∃u,h'.get? e=some u)
  (new:ObjOk X.prog X.w (upd H x o) h' x o):Inv X pins σ (upd H x o) { s with heap:=h',toks:=t' }:=I.un (Un.write mu he k heo) (I.hok.write mu he k heo new)
theorem Inv.pins_of{pins':List (Addr×Obj)}(I:Inv X pins σ H s)(h:∀p∈pins',s.heap.get? p.1=some p.2/\H p.1=none/\p.1≠X.env.locals/\p.1∉X.fs/\∀v,p.2.data≠.cell v):Inv X pins' σ H s:=
 ⟨I.ok,I.os,I.bare,I.base,I.loc,I.cell,I.free,I.freeC,λp hp=>(Et.mp hp).elim (λz=>I.pin p (EZ _ z)) (h p),I.hok,I.len⟩
theorem lY{N:List Str}(hN:N.Nodup){i j:Nat}{x:Str}(a:N[i]? = some x)(b:N[j]? = some x):i=j:=by
 obtain⟨h1,e1⟩:=D6.mp a;obtain⟨h2,e2⟩:=D6.mp b;exact(List.getElem_inj hN).mp (e1.trans e2.symm)
theorem oM{M:Model}{A:Around}{E:Value->Shared->Prop}{i:Nat}{x:Str}{v:V}{u:Value}{Q:Unit->Shared->Prop}(I:Inv X pins σ H s)(hN:X.N.Nodup)(hi:X.N[i]? = some x)(hx:Loc X.env.scope x)(r:RelV v u)
  (h:∀s',Inv X pins (σ.set i (some v)) H s'->(∃a,FK a s.heap s'.heap/\(a=X.env.locals\/X.env.cells.lookup x=some a))->Q () s') (hf:X.fn x=true\/X.env.scope.names.lookup x=some .local:=by first|exact .inl rfl|exact .inr rfl|assumption):wpAny M A (storeName X.env x u) Q E s:=by
 obtain⟨m,hn,hl⟩:=id I.loc;have hcls:(X.env.scope.kind == .class || (X.env.scope.kind == .module && X.env.locals != X.env.globals))=false:=by rw[I.ok.kind];rfl
 have hiσ:i<σ.length:=by rw[I.len];exact(D6.mp hi).1
 have cne:=I.cne;have tracked:∀{a:Addr}{h':Heap},(∃o,s.heap.get? a=some o/\H a=none)->FK a s.heap h'->HOk X.prog X.w H h':=λ{a h'} ha hs b ob e=>by
  obtain⟨_,_,hfree⟩:=ha;refine(I.hok b ob e).stay (λc w' hc q=>(hs.2 c ?_).trans q) (λ_ q=>q) λ_ _ q=>q
  rintro rfl;rcases hc with rfl|hc
  ·rw[hfree]at e;cases e
  ·rw[hfree]at hc;cases hc
 rcases hx with hk|hk
 ·refine wpAny_storeName_local hk hn (λh' hn' hs=>?_) hcls
  obtain⟨oL,_,_,hoL,_⟩:=id hn;refine h _ ⟨I.ok,I.os,I.bare,⟨λb o e n hb hx=>?_,λb o e n hb hx=>?_,I.base.free,λb o e hx=>?_,I.base.tups,I.base.frzs,I.base.tbls⟩,⟨_,hn',λj y v' e1 e2 e3=>?_⟩,λy c e=>?_,I.free,I.freeC,λp hp=>?_,tracked ⟨oL,hoL,I.free⟩ hs,by simpa using I.len⟩ ⟨_,hs,.inl rfl⟩
  ·exact(hs.2 b (Eh (El (D2 e) I.ok.above))).trans (I.base.keep b o e n hb hx)
  ·obtain⟨sl,e1⟩:=I.base.slot b o e n hb hx
   exact⟨sl,(hs.2 b (Eh (El (D2 e) I.ok.above))).trans e1⟩
  ·obtain⟨o',e1⟩:=I.base.there b o e hx
   exact⟨o',(hs.2 b (Eh (El (D2 e) I.ok.above))).trans e1⟩
  ·by_cases hj:j=i
   ·subst hj
    rw[hi]at e1;cases e1;rw[J8 hiσ]at e2;cases e2;exact⟨u,r,.inl ⟨hk,by simp⟩⟩
   ·rw[Kw (E5 hj)]at e2
    obtain⟨u',r',q⟩:=hl j y v' e1 e2 e3;refine⟨u',r',?_⟩;rcases q with⟨k,e⟩|⟨k,c,e,z⟩
    ·refine .inl ⟨k,?_⟩
     have:y≠x:=λe=>hj (lY hN e1 (e▸hi))
     simp[this,e]
    ·exact .inr ⟨k,c,e,z.sameBut hs (cne y c e)⟩
  ·obtain⟨w',z⟩:=I.cell y c e
   exact⟨w',z.sameBut hs (cne y c e)⟩
  ·obtain⟨e,n,ne,nf,d⟩:=I.pin p hp
   exact⟨(hs.2 p.1 ne).trans e,n,ne,nf,d⟩
 ·have hfn:X.fn x=true:=by
   rcases hf with z|z
   ·exact z
   ·rw[z]at hk;cases hk
  obtain⟨c,hc⟩:=I.ok.has x (.inl hk);obtain⟨w',z⟩:=I.cell x c hc;refine wpAny_storeName_cell I.ok.kind hk hc z (λh' hc' hs=>?_);obtain⟨oc,hoc,hocd⟩:=id z;refine h { s with heap:=h' } ⟨I.ok,I.os,I.bare,⟨λb o e n hb hx=>?_,λb o e n hb hx=>?_,I.base.free,λb o e hx=>?_,I.base.tups,I.base.frzs,I.base.tbls⟩,⟨m,hn.sameBut hs (E5 (cne x c hc)),λj y v' e1 e2 e3=>?_⟩,λy c' e=>?_,I.free,I.freeC,λp hp=>?_,tracked ⟨oc,hoc,I.freeC x c hc⟩ hs,by simpa using I.len⟩ ⟨c,hs,.inr hc⟩
  ·exact(hs.2 b (Eh (El (D2 e) (I.ok.cab x c hfn hc)))).trans (I.base.keep b o e n hb hx)
  ·obtain⟨sl,e1⟩:=I.base.slot b o e n hb hx
   exact⟨sl,(hs.2 b (Eh (El (D2 e) (I.ok.cab x c hfn hc)))).trans e1⟩
  ·obtain⟨o',e1⟩:=I.base.there b o e hx
   exact⟨o',(hs.2 b (Eh (El (D2 e) (I.ok.cab x c hfn hc)))).trans e1⟩
  ·by_cases hj:j=i
   ·subst hj
    rw[hi]at e1;cases e1;rw[J8 hiσ]at e2;cases e2;exact⟨u,r,.inr ⟨.inl hk,c,hc,hc'⟩⟩
   ·rw[Kw (E5 hj)]at e2
    obtain⟨u',r',q⟩:=hl j y v' e1 e2 e3;refine⟨u',r',?_⟩;rcases q with q|⟨k,c',e,z'⟩
    ·exact .inl q
    ·refine .inr ⟨k,c',e,z'.sameBut hs ?_⟩
     rintro rfl;exact hj (lY hN e1 (I.ok.inj _ _ _ e hc▸hi))
  ·by_cases hcc:c'=c
   ·subst hcc;exact⟨_,hc'⟩
   ·obtain⟨w2,z2⟩:=I.cell y c' e
    exact⟨w2,z2.sameBut hs hcc⟩
  ·obtain⟨e,n,ne,nf,d⟩:=I.pin p hp
   refine⟨(hs.2 p.1 ?_).trans e,n,ne,nf,d⟩;intro q;rw[q,hoc]at e;have q':oc=p.2:=Er e;exact d w' (by rw[<-q'];exact hocd)
theorem dR{M:Model}{A:Around}{E:Value->Shared->Prop}{i:Nat}{x:Str}{v:V}{u:Value}{Q:Unit->Shared->Prop}(I:Inv X pins σ H s)(hN:X.N.Nodup)(hi:X.N[i]? = some x)(hx:Loc X.env.scope x)(r:RelV v u)
  (h:∀s',Inv X pins (σ.set i (some v)) H s'->Q () s') (hf:X.fn x=true\/X.env.scope.names.lookup x=some .local:=by first|exact .inl rfl|exact .inr rfl|assumption):wpAny M A (storeName X.env x u) Q E s:=
 oM I hN hi hx r (λs' I' _=>h s' I') hf
theorem Inv.call'{s':Shared}{ch:List Addr}(I:Inv X pins σ H s)(ho:s'.os=s.os)(u:Un (frs X.stack) ch H H' s.heap s'.heap)(hok:HOk X.prog X.w H' s'.heap)(hg:AllBare s'.gens)
  (hch:∀b∈ch,(b∈X.ex\/X.s₀.heap.objs.size<=b)/\b≠X.env.locals/\(∀x c,X.env.cells.lookup x=some c->c≠b)/\∀p∈X.pn++pins,p.1≠b):Inv X pins σ H' s':=by
 obtain⟨h',g',d',t',o'⟩:=s';have e:o'=s.os:=ho;subst e;exact I.call (g':=g') (t':=t') (d':=d') u hok hg hch
end
noncomputable abbrev XK:=Value->Option Addr->Hp->Prop
noncomputable abbrev St:=List (Option V)
noncomputable abbrev VK:=V->Hp->Prop
noncomputable abbrev TE:=St->Hp->VK->Prop
noncomputable abbrev TT:=St->Hp->(Bool->Hp->Prop)->Prop
noncomputable abbrev TA:=St->Hp->(List V->Hp->Prop)->Prop
structure Ends where
 nx:St->Hp->Prop
 rt:VK
 bk:St->Hp->Prop:=λ_ _=>False
 ct:St->Hp->Prop:=λ_ _=>False
noncomputable abbrev TS:=Ends->St->Hp->Prop
def EP(X:Cx)(pins:List (Addr×Obj))(σ:St)(Q:VK)(u:Value)(s':Shared):Prop:=∃v H',Inv X pins σ H' s'/\RelV v u/\Q v H'
def TP(X:Cx)(pins:List (Addr×Obj))(σ:St)(Q:Bool->Hp->Prop)(b:Bool)(s':Shared):Prop:=∃H',Inv X pins σ H' s'/\Q b H'
def AP(X:Cx)(pins:List (Addr×Obj))(σ:St)(Q:List V->Hp->Prop)(us:List Value)(s':Shared):Prop:=∃vs H',Inv X pins σ H' s'/\Vals vs us/\Q vs H'
def SP(X:Cx)(pins:List (Addr×Obj))(D:Ends)(f:Flow)(s':Shared):Prop:=
 match f with
 | .next=>∃σ' H',Inv X pins σ' H' s'/\D.nx σ' H'
 | .brk=>∃σ' H',Inv X pins σ' H' s'/\D.bk σ' H'
 | .cont=>∃σ' H',Inv X pins σ' H' s'/\D.ct σ' H'
 | .ret u=>∃v σ' H',Inv X pins σ' H' s'/\RelV v u/\D.rt v H'
def PE(X:Cx)(e:Expr)(t:TE):Prop:=
 ∀(pins:List (Addr×Obj)) (s:Shared) (σ:St) (H:Hp) (Q:VK),Inv X pins σ H s->t σ H Q->wpAny (model X.prog X.w) X.A (eval e X.env) (EP X pins σ Q) X.xe s
def PT(X:Cx)(e:Expr)(t:TT):Prop:=
 ∀(pins:List (Addr×Obj)) (s:Shared) (σ:St) (H:Hp) (Q:Bool->Hp->Prop),Inv X pins σ H s->t σ H Q->wpAny (model X.prog X.w) X.A (isTrue e X.env (eval e X.env)) (TP X pins σ Q) X.xe s
def PW(X:Cx)(e:Expr)(t:TT):Prop:=
 ∀(whole:Sem Value) (pins:List (Addr×Obj)) (s:Shared) (σ:St) (H:Hp) (Q:Bool->Hp->Prop),Inv X pins σ H s->t σ H Q->wpAny (model X.prog X.w) X.A (isTrue e X.env whole) (TP X pins σ Q) X.xe s
theorem PW.pt{X:Cx}{e:Expr}{t:TT}(h:PW X e t):PT X e t:=h _
def PA(X:Cx)(es:List Expr)(t:TA):Prop:=
 ∀(pos:Pos) (pins:List (Addr×Obj)) (s:Shared) (σ:St) (H:Hp) (Q:List V->Hp->Prop),Inv X pins σ H s->t σ H Q->wpAny (model X.prog X.w) X.A (spliced (backTo pos (starEach es X.env))) (AP X pins σ Q) X.xe s
def PS(X:Cx)(st:Stmt)(t:TS):Prop:=
 ∀(pins:List (Addr×Obj)) (s:Shared) (σ:St) (H:Hp) (D:Ends),Inv X pins σ H s->t D σ H->wpAny (model X.prog X.w) X.A (exec st X.env) (SP X pins D) X.xe s
def PSs(X:Cx)(st:List Stmt)(t:TS):Prop:=
 ∀(pins:List (Addr×Obj)) (s:Shared) (σ:St) (H:Hp) (D:Ends),Inv X pins σ H s->t D σ H->wpAny (model X.prog X.w) X.A (execs st X.env) (SP X pins D) X.xe s
theorem thn{α:Type}{t:Sem α}{Q Q':α->Shared->Prop}{M:Model}{A:Around}{E:Value->Shared->Prop}{s:Shared}(h:wpAny M A t Q E s)(hQ:∀a s,Q a s->Q' a s):wpAny M A t Q' E s:=OD h hQ λ_ _ x=>x
section
variable{X:Cx}
theorem bin{a b:Expr}{ta tb:TE}(ha:PE X a ta)(hb:PE X b tb){pins:List (Addr×Obj)}{s:Shared}{σ:St}{H:Hp}{R:V->V->Hp->Prop}(I:Inv X pins σ H s)(h:ta σ H λx H1=>tb σ H1 λy H2=>R x y H2)
  {α:Type}{Q:α->Shared->Prop}{f:Value->Value->Sem α}
  (hf:∀v u s2 x y H2,Inv X pins σ H2 s2->RelV x v->RelV y u->R x y H2->wpAny (model X.prog X.w) X.A (f v u) Q X.xe s2) :
  wpAny (model X.prog X.w) X.A (eval a X.env) (λv s₁=>wpAny (model X.prog X.w) X.A (eval b X.env) (λu s₂=>wpAny (model X.prog X.w) X.A (f v u) Q X.xe s₂) X.xe s₁) X.xe s:=by
 refine thn (ha pins s σ H _ I h) λv s1 ⟨x,H1,I1,r1,q1⟩=>?_
 refine thn (hb pins s1 σ H1 _ I1 q1) λu s2 ⟨y,H2,I2,r2,q2⟩=>?_
 exact hf v u s2 x y H2 I2 r1 r2 q2
def AM(i:Nat):TE:=λσ H Q=>∃v,σ[i]? = some (some v)/\Q v H
def tC(v:V):TE:=λ_ H Q=>Q v H
theorem xT {i:Nat}{x:Str}{pos:Pos}(hN:X.N[i]? = some x) (hv:Vis X.env.scope x) (hd:(x == ("__debug__" : Str))=false:=by decide) (hcd:(x == ("__classdict__" : Str))=false:=by decide):PE X (.Name x pos) (AM i):=by
 intro pins s σ H Q I h;obtain⟨v,e,h⟩:=h;obtain⟨m,hn,hl⟩:=I.loc;obtain⟨u,r,l⟩:=hl i x v hN e hv;have fin:EP X pins σ Q u s:=⟨v,H,I,r,h⟩;rcases l with⟨hk,hm⟩|⟨hk,c,hc,hcell⟩
 ·exact wpAny_Name (wpAny_loadName_local I.ok.kind hk hn hm fin) hd
 ·rcases hk with hk|hk
  ·exact wpAny_Name (wpAny_loadName_cell I.ok.kind hk hc hcell fin) hd
  ·exact wpAny_Name (wpAny_loadName_free I.ok.kind hk hc hcell fin hcd) hd
theorem uk{i j pos}:PE X (.Constant (.int i) j pos) (tC (.int i)):=λ_ _ _ H _ I h=>wpAny_Constant_int ⟨.int i,H,I.tok _,⟨_,rfl⟩,h⟩
theorem AN{b j pos}:PE X (.Constant (.bool b) j pos) (tC (.bl b)):=λ_ _ _ H _ I h=>Constant_bool ⟨.bl b,H,I,rfl,h⟩
theorem xU{j pos}:PE X (.Constant .none j pos) (tC .non):=λ_ _ _ H _ I h=>Constant_none ⟨.non,H,I,rfl,h⟩
theorem xV{x j pos}:PE X (.Constant (.str x) j pos) (tC (.str x)):=λ_ _ _ H _ I h=>Calls.Constant_str ⟨.str x,H,I.tok _,⟨_,rfl⟩,h⟩
def Gl(X:Cx)(x:Str):Prop:=X.env.kindOf x=some .globalImplicit
theorem oN{E:Value->Shared->Prop}{pins:List (Addr×Obj)}{s:Shared}{σ:St}{H:Hp}{x:Str}{u:Value}{pos:Pos}{Q:Value->Shared->Prop}(I:Inv X pins σ H s)(hg:Gl X x)(hm:X.mg x=some u)(h:Q u s)
  (hd:(x == ("__debug__" : Str))=false:=by decide):wpAny (model X.prog X.w) X.A (eval (.Name x pos) X.env) Q E s:=
 IZ I.ok.kind hg (Calls.loadGlobal_global (by rw[I.ok.glob];exact I.mod.glob.keeps I.bk) hm h) hd
theorem de{E:Value->Shared->Prop}{pins:List (Addr×Obj)}{s:Shared}{σ:St}{H:Hp}{x:Str}{u:Value}{pos:Pos}{Q:Value->Shared->Prop}(I:Inv X pins σ H s)(hg:Gl X x)(hm:X.mg x=none)(hv:bootBuiltins x=some u)(h:Q u s)
  (hn:x≠"__name__":=by decide) (hd:(x == ("__debug__" : Str))=false:=by decide):wpAny (model X.prog X.w) X.A (eval (.Name x pos) X.env) Q E s:=by
 obtain⟨mb,h1,h2⟩:=I.mod.blt;exact IZ I.ok.kind hg (Calls.loadGlobal_builtin (by rw[I.ok.glob];exact I.mod.glob.keeps I.bk) hm (by rw[I.ok.blt];exact h1.keeps I.bk) ((h2 x hn).trans hv) h) hd
theorem u9 {x:Str}{v:V}{u:Value}{pos:Pos}(hg:Gl X x) (hm:X.mg x=some u) (r:RelV v u) (hd:(x == ("__debug__" : Str))=false:=by decide):PE X (.Name x pos) (tC v):=
 λ_ _ _ H _ I h=>oN I hg hm ⟨v,H,I,r,h⟩ hd
theorem ve {x:Str}{v:V}{u:Value}{pos:Pos}(hg:Gl X x) (hm:X.mg x=none) (hv:bootBuiltins x=some u) (r:RelV v u) (hn:x≠"__name__":=by decide) (hd:(x == ("__debug__" : Str))=false:=by decide):PE X (.Name x pos) (tC v):=
 λ_ _ _ H _ I h=>de I hg hm hv ⟨v,H,I,r,h⟩ hn hd
variable{a b:Expr}{ta tb:TE}{pos:Pos}
def tB(t:TE):TT:=λσ H Q=>t σ H λx H1=>∃c,x=.bl c/\Q c H1
theorem xW{e:Expr}{t:TE}(h:PE X e t)(he:∀whole,isTrue e X.env whole=(do let v <-whole;standAt e.pos;OR [v] (truthy v)):=by intro _;rfl):PT X e (tB t):=by
 intro pins s σ H Q I hw;refine isTrue_plain (thn (h pins s σ H _ I hw) λv s1 ⟨x,H1,I1,r1,q1⟩=>?_) (he _);obtain⟨d,rfl,q⟩:=q1;cases r1;exact OO ⟨H1,I1,q⟩
variable{tA tB':TT}{rest:List Expr}
def AO(t u:TT):TT:=λσ H Q=>t σ H λc H1=>if c=true then u σ H1 Q else Q false H1
def tOr(t u:TT):TT:=λσ H Q=>t σ H λc H1=>if c=true then Q true H1 else u σ H1 Q
def AQ(t:TT):TT:=λσ H Q=>t σ H λc H1=>Q (!c) H1
theorem vf(ha:PT X a tA):PW X (.BoolOp .And [a] pos) tA:=by
 intro wh pins s σ H Q I h;refine isTrue_and (thn (ha pins s σ H Q I h) λc s1 e=>?_);cases c with
 | true=>exact isTrue_and_nil e
 | false=>exact e
theorem xX(ha:PT X a tA):PW X (.BoolOp .Or [a] pos) tA:=by
 intro wh pins s σ H Q I h;refine isTrue_or (thn (ha pins s σ H Q I h) λc s1 e=>?_);cases c with
 | false=>exact isTrue_or_nil e
 | true=>exact e
theorem xY(ha:PT X a tA)(hb:PW X (.BoolOp .And (b::rest) pos) tB'):PW X (.BoolOp .And (a::b::rest) pos) (AO tA tB'):=by
 intro wh pins s σ H Q I h;refine isTrue_and (thn (ha pins s σ H _ I h) λc s1 ⟨H1,I1,q1⟩=>?_);cases c with
 | true=>exact hb wh pins s1 σ H1 Q I1 q1
 | false=>exact⟨H1,I1,q1⟩
theorem AR(ha:PT X a tA)(hb:PW X (.BoolOp .Or (b::rest) pos) tB'):PW X (.BoolOp .Or (a::b::rest) pos) (tOr tA tB'):=by
 intro wh pins s σ H Q I h;refine isTrue_or (thn (ha pins s σ H _ I h) λc s1 ⟨H1,I1,q1⟩=>?_);cases c with
 | true=>exact⟨H1,I1,q1⟩
 | false=>exact hb wh pins s1 σ H1 Q I1 q1
theorem xZ(ha:PT X a tA):PT X (.UnaryOp .Not a pos) (AQ tA):=by
 intro pins s σ H Q I h;exact isTrue_not (ha pins s σ H (λc H1=>Q (!c) H1) I h)
def vg(ta tb:TE):TE:=λσ H Q=>ta σ H λx H1=>∃c,x=.bl c/\if c=true then tb σ H1 Q else Q (.bl false) H1
def vh(ta:TE):TE:=λσ H Q=>ta σ H λx H1=>∃c,x=.bl c/\Q (.bl (!c)) H1
theorem x6{op}{t:TE}(h:PE X a t):PE X (.BoolOp op [a] pos) t:=λpins s σ H Q I hw=>BoolOp_one (h pins s σ H Q I hw)
theorem x8(ha:PE X a ta)(hb:PE X (.BoolOp .And (b::rest) pos) tb):PE X (.BoolOp .And (a::b::rest) pos) (vg ta tb):=by
 intro pins s σ H Q I h;refine BoolOp_and (thn (ha pins s σ H _ I h) λv s1 ⟨x,H1,I1,r1,q1⟩=>?_);obtain⟨c,rfl,q1⟩:=q1;cases r1;refine OO ?_;cases c with
 | true=>exact hb pins s1 σ H1 Q I1 q1
 | false=>exact⟨.bl false,H1,I1,rfl,q1⟩
theorem ya(ha:PE X a ta):PE X (.UnaryOp .Not a pos) (vh ta):=by
 intro pins s σ H Q I h;refine UnaryOp_ (thn (ha pins s σ H _ I h) λv s1 ⟨x,H1,I1,r1,q1⟩=>?_);obtain⟨c,rfl,q1⟩:=q1;cases r1;exact not_of (OO ⟨.bl (!c),H1,I1,rfl,q1⟩)
def tIf(t:TT)(ta tb:TE):TE:=λσ H Q=>t σ H λc H1=>if c=true then ta σ H1 Q else tb σ H1 Q
theorem rE{c:Expr}(hc:PT X c tA)(ha:PE X a ta)(hb:PE X b tb):PE X (.IfExp c a b pos) (tIf tA ta tb):=by
 intro pins s σ H Q I h;refine wpAny_IfExp (thn (hc pins s σ H _ I h) λd s1 ⟨H1,I1,q1⟩=>?_);cases d with
 | true=>exact ha pins s1 σ H1 Q I1 q1
 | false=>exact hb pins s1 σ H1 Q I1 q1
end
def SqL(K:DU)(H:Hp)(a:Addr)(xs:List V):Prop:=
 Rd H a (.lst xs)\/
  ∃(o:Obj) (its:Array Value) (n:Nat),K.lookup a=some o/\o.cls=.type "list"/\o.dict=none/\o.data=.seq its n/\its.size<=Ox/\Vals xs its.toList
def SqT(K:DU)(H:Hp)(a:Addr)(xs:List V):Prop:=
 Rd H a (.tup xs)\/
  ∃(o:Obj) (its:Array Value) (n:Nat),K.lookup a=some o/\o.cls=.type "tuple"/\o.data=.seq its n/\its.size<=Ox/\Vals xs its.toList
noncomputable def Df:Value->Option V
 | .none=>some .non
 | .bool b=>some (.bl b)
 | .int i _=>some (.int i)
 | .str x _=>some (.str x)
 | .bytes b _=>some (.byt b)
 | .float b _=>some (.flt b)
 | .ref a=>some (.ref a)
 | .type n=>some (.ty n)
 | _=>none
theorem RelV.abs{x:V}{u:Value}(r:RelV x u):Df u=some x:=by
 cases x with
 | non=>cases r;rfl
 | bl _=>cases r;rfl
 | int _=>obtain⟨t,rfl⟩:=r;rfl
 | str _=>obtain⟨t,rfl⟩:=r;rfl
 | byt _=>obtain⟨t,rfl⟩:=r;rfl
 | flt _=>obtain⟨t,rfl⟩:=r;rfl
 | ref _=>cases r;rfl
 | ty _=>cases r;rfl
theorem RelV.inj{x y:V}{u:Value}(r:RelV x u)(q:RelV y u):x=y:=Er (r.abs.symm.trans q.abs)
theorem Vals.inj:∀{xs ys:List V}{us:List Value},Vals xs us->Vals ys us->xs=ys
 | _,_,_,.nil,.nil=>rfl
 | _,_,_,.cons r t,.cons r' t'=>by rw[r.inj r',Vals.inj t t']
section
variable{X:Cx}{pins:List (Addr×Obj)}{σ:St}{H:Hp}{s:Shared}{a:Addr}{xs ys:List V}
theorem SqL.of{K:DU}(h:H a=some (.lst xs)):SqL K H a xs:=.inl (.inl h)
theorem SqT.of{K:DU}(h:H a=some (.tup xs)):SqT K H a xs:=.inl (.inl h)
theorem Inv.list(I:Inv X pins σ H s)(h:SqL X.K H a xs):∃its:List Value,Vals xs its/\PlainL s.heap a its.toArray/\xs.length<=Ox:=by
 rcases h with h|⟨o,its,n,hk,hc,hd,hs,hz,r⟩
 ·obtain⟨z,its,n,r,e⟩:=h.ok I.hok
  exact⟨its,r,⟨_,n,e,rfl,rfl,rfl⟩,z⟩
 ·refine⟨its.toList,r,⟨o,n,I.kIn a o hk,hc,hd,by simpa using hs⟩,?_⟩
  have e:=r.length;simp only[E8]at e;lia
theorem Inv.tuple(I:Inv X pins σ H s)(h:SqT X.K H a xs):∃its:List Value,Vals xs its/\IsTup s.heap a its.toArray/\xs.length<=Ox:=by
 rcases h with h|⟨o,its,n,hk,hc,hs,hz,r⟩
 ·obtain⟨z,its,r,p⟩:=h.ok I.hok
  exact⟨its,r,p,z⟩
 ·refine⟨its.toList,r,⟨o,I.kIn a o hk,hc,n,by simpa using hs⟩,?_⟩
  have e:=r.length;simp only[E8]at e;lia
theorem Inv.list_inj(I:Inv X pins σ H s)(h:SqL X.K H a xs)(h':SqL X.K H a ys):xs=ys:=by
 obtain⟨its,r,⟨o,n,e,_,_,d⟩,_⟩:=I.list h;obtain⟨its',r',⟨o',n',e',_,_,d'⟩,_⟩:=I.list h';rw[e]at e';cases e';rw[d]at d';injection d' with d1 _
 have:its=its':=by simpa using congrArg MR d1
 subst this;exact r.inj r'
theorem Inv.tuple_inj(I:Inv X pins σ H s)(h:SqT X.K H a xs)(h':SqT X.K H a ys):xs=ys:=by
 obtain⟨its,r,⟨o,e,_,n,d⟩,_⟩:=I.tuple h;obtain⟨its',r',⟨o',e',_,n',d'⟩,_⟩:=I.tuple h';rw[e]at e';cases e';rw[d]at d';injection d' with d1 _
 have:its=its':=by simpa using congrArg MR d1
 subst this;exact r.inj r'
end
noncomputable abbrev Cx.wish(X:Cx)(E:Value->Shared->Prop):Cx:={ X with xe:=E }
noncomputable abbrev Cx.nox(X:Cx):Cx:=X.wish λ_ _=>False
theorem Cx.Ok.wish{X:Cx}(ok:X.Ok)(E:Value->Shared->Prop):(X.wish E).Ok:=
 ⟨ok.mod,ok.kind,ok.glob,ok.blt,ok.above,ok.inj,ok.has,ok.cab,ok.hd,ok.frames,ok.stk,ok.exf,ok.bs,ok.bsz,ok.noex,ok.exfs,ok.funs,ok.frf⟩
theorem Cx.Ok.unwish{X:Cx}{E:Value->Shared->Prop}(ok:(X.wish E).Ok):X.Ok:=
 ⟨ok.mod,ok.kind,ok.glob,ok.blt,ok.above,ok.inj,ok.has,ok.cab,ok.hd,ok.frames,ok.stk,ok.exf,ok.bs,ok.bsz,ok.noex,ok.exfs,ok.funs,ok.frf⟩
section
variable{X:Cx}{pins:List (Addr×Obj)}{σ:St}{H:Hp}{s:Shared}{E:Value->Shared->Prop}
theorem Inv.wish(I:Inv X pins σ H s)(E:Value->Shared->Prop):Inv (X.wish E) pins σ H s:=⟨I.ok.wish E,I.os,I.bare,I.base,I.loc,I.cell,I.free,I.freeC,I.pin,I.hok,I.len⟩
theorem Inv.unwish(I:Inv (X.wish E) pins σ H s):Inv X pins σ H s:=⟨I.ok.unwish,I.os,I.bare,I.base,I.loc,I.cell,I.free,I.freeC,I.pin,I.hok,I.len⟩
theorem SP.unwish{D:Ends}{f:Flow}{s':Shared}(h:SP (X.wish E) pins D f s'):SP X pins D f s':=by
 cases f with
 | next=>obtain⟨σ',H',I,q⟩:=h;exact⟨σ',H',I.unwish,q⟩
 | brk=>obtain⟨σ',H',I,q⟩:=h;exact⟨σ',H',I.unwish,q⟩
 | cont=>obtain⟨σ',H',I,q⟩:=h;exact⟨σ',H',I.unwish,q⟩
 | ret u=>obtain⟨v,σ',H',I,r,q⟩:=h;exact⟨v,σ',H',I.unwish,r,q⟩
theorem PSs.nox{st:List Stmt}{t:TS}(h:PSs X.nox st t):PSs X st t:=λpins s σ H D I hw=>
 OD (h pins s σ H D (I.wish _) hw) (λ_ _ q=>q.unwish) λ_ _ z=>FW z
end
section
variable{X:Cx}{st:Stmt}{rest:List Stmt}{t u:TS}{e:Expr}{te:TE}{pos:Pos}
def vi:TS:=λD σ H=>D.nx σ H
def AS(t u:TS):TS:=λD σ H=>t { D with nx:=u D } σ H
theorem vj:PSs X [] vi:=λ_ _ σ H _ I h=>wpAny_execs_nil ⟨σ,H,I,h⟩
theorem rF(h1:PS X st t)(h2:PSs X rest u):PSs X (st::rest) (AS t u):=by
 intro pins s σ H D I h;refine wpAny_execs_cons (thn (h1 pins s σ H { D with nx:=u D } I h) λf s1 q=>?_);cases f with
 | next=>
  obtain⟨σ',H',I',q⟩:=q;exact h2 pins s1 σ' H' D I' q
 | ret v=>exact q
 | brk=>exact q
 | cont=>exact q
theorem vm(h1:PS X st t):PSs X [st] t:=by
 intro pins s σ H D I h;refine wpAny_execs_cons (thn (h1 pins s σ H D I h) λf s1 q=>?_);cases f with
 | next=>exact wpAny_execs_nil q
 | ret v=>exact q
 | brk=>exact q
 | cont=>exact q
def vn:TS:=λD σ H=>D.ct σ H
theorem kY:PS X (.Continue pos) vn:=λ_ _ σ H _ I h=>wpAny_Continue ⟨σ,H,I,h⟩
theorem Inv.quiet{pins:List (Addr×Obj)}{σ:St}{H:Hp}{s:Shared}(I:Inv X pins σ H s):interactive X.env=false:=by simp[interactive,I.ok.kind]
def vo(te:TE):TS:=λD σ H=>te σ H λ_ H1=>D.nx σ H1
theorem vp(he:PE X e te)(hs:OY e none pos.line X.env=pure false:=by rfl):PS X (.Expr e pos) (vo te):=by
 intro pins s σ H D I h;exact wpAny_Expr_any (thn (he pins s σ H _ I h) λv s1 ⟨x,H1,I1,r1,q1⟩=>⟨σ,H1,I1,q1⟩) I.quiet hs
def AU(te:TE):TS:=λD σ H=>te σ H D.rt
theorem yb(he:PE X e te):PS X (.Return (some e) pos) (AU te):=by
 intro pins s σ H D I h;exact wpAny_Return_some (thn (he pins s σ H _ I h) λv s1 ⟨x,H1,I1,r1,q1⟩=>⟨x,σ,H1,I1,r1,q1⟩)
def AV(c:TT)(t u:TS):TS:=λD σ H=>c σ H λb H1=>if b=true then t D σ H1 else u D σ H1
theorem AW{c:Expr}{a b:List Stmt}{tc:TT}(hc:PT X c tc)(ha:PSs X a t)(hb:PSs X b u):PS X (.If c a b pos) (AV tc t u):=by
 intro pins s σ H D I h;refine wpAny_If (thn (hc pins s σ H _ I h) λd s1 ⟨H1,I1,q1⟩=>?_);cases d with
 | true=>exact ha pins s1 σ H1 D I1 q1
 | false=>exact hb pins s1 σ H1 D I1 q1
def um:TS:=λ_ _ _=>False
theorem rG:PS X st um:=λ_ _ _ _ _ _ h=>h.elim
end
noncomputable abbrev TG:=V->St->Hp->(St->Hp->Prop)->Prop
noncomputable abbrev TGs:=List V->St->Hp->(St->Hp->Prop)->Prop
def PG(X:Cx)(target:Expr)(t:TG):Prop:=
 ∀(pins:List (Addr×Obj)) (s:Shared) (σ:St) (H:Hp) (v:V) (u:Value) (Q:St->Hp->Prop),Inv X pins σ H s->RelV v u->t v σ H Q->
  wpAny (model X.prog X.w) X.A (assign target X.env u) (λ_ s'=>∃σ' H',Inv X pins σ' H' s'/\Q σ' H') X.xe s
def PGs(X:Cx)(ts:List Expr)(t:TGs):Prop:=
 ∀(pins:List (Addr×Obj)) (s:Shared) (σ:St) (H:Hp) (vs:List V) (us:List Value) (Q:St->Hp->Prop),Inv X pins σ H s->Vals vs us->t vs σ H Q->
  wpAny (model X.prog X.w) X.A (assignInOrder ((OJ ts X.env).map (·.2)) us) (λ_ s'=>∃σ' H',Inv X pins σ' H' s'/\Q σ' H') X.xe s
noncomputable abbrev vq:=V->V->V->Hp->(Hp->Prop)->Prop
def AX(X:Cx)(t:vq):Prop:=
 ∀(pins:List (Addr×Obj)) (s:Shared) (σ:St) (H:Hp) (o i v:V) (ov iv u:Value) (Q:Hp->Prop),Inv X pins σ H s->RelV o ov->RelV i iv->RelV v u->t o i v H Q->
  wpAny (model X.prog X.w) X.A (setItem ov iv u) (λ_ s'=>∃H',Inv X pins σ H' s'/\Q H') X.xe s
noncomputable abbrev TIp:=V->V->Hp->VK->Prop
def PIp(X:Cx)(op:Operator)(t:TIp):Prop:=
 ∀(pins:List (Addr×Obj)) (s:Shared) (σ:St) (H:Hp) (x y:V) (v u:Value) (Q:VK),Inv X pins σ H s->RelV x v->RelV y u->t x y H Q->
  wpAny (model X.prog X.w) X.A (inplaceOp op v u) (EP X pins σ Q) X.xe s
section
variable{X:Cx}{pos:Pos}
def dk(i:Nat):TG:=λv σ H Q=>Q (σ.set i (some v)) H
theorem vt{i:Nat}{x:Str}(hN:X.N.Nodup)(hi:X.N[i]? = some x)(hx:Loc X.env.scope x)(hf:X.fn x=true\/X.env.scope.names.lookup x=some .local:=by first|exact .inl rfl|exact .inr rfl|assumption):PG X (.Name x pos) (dk i):=by
 intro pins s σ H v u Q I r h;exact wpAny_assign_Name (dR I hN hi hx r (λs' I'=>⟨_,H,I',h⟩) hf)
noncomputable def yc:TGs:=λvs σ H Q=>vs=[]/\Q σ H
noncomputable def je(t:TG)(u:TGs):TGs:=λvs σ H Q=>∃v r,vs=v::r/\t v σ H λσ' H'=>u r σ' H' Q
theorem vv:PGs X [] yc:=by
 intro pins s σ H vs us Q I r h;obtain⟨e,h⟩:=h;subst e;cases r;exact assignInOrder_nil ⟨σ,H,I,h⟩
theorem rH{e:Expr}{es:List Expr}{t:TG}{u:TGs}(h1:PG X e t)(h2:PGs X es u)
  (hs:(OJ (e::es) X.env).map (·.2)=assign e X.env::(OJ es X.env).map (·.2):=by rfl):PGs X (e::es) (je t u):=by
 intro pins s σ H vs us Q I r h;obtain⟨v,vr,e1,h⟩:=h;subst e1;cases r with
 | cons r rr=>
  rw[hs];refine assignInOrder_cons (thn (h1 pins s σ H _ _ _ I r h) λ_ s1 ⟨σ1,H1,I1,q1⟩=>?_);exact h2 pins s1 σ1 H1 _ _ Q I1 rr q1
def Aj(K:DU)(n:Nat)(t:TGs):TG:=λv σ H Q=>∃a xs,v=.ref a/\SqT K H a xs/\xs.length=n/\t xs σ H Q
theorem yd{es:List Expr}{k:Nat}{t:TGs}{n:Nat}(hc:X.calm=true)(h:PGs X es t)
  (hn:(OJ es X.env).length=n:=by rfl) (hst:(OJ es X.env).findIdx? (·.1)=none:=by rfl):PG X (.Tuple es k pos) (Aj X.K n t):=by
 intro pins s σ H v u Q I r hw;obtain⟨a,xs,e1,hq,hl,hw⟩:=hw;subst e1;cases r;obtain⟨its,rv,ht,hz⟩:=I.tuple hq;refine assign_Tuple_tuple (I.ok.hd hc) ht (by simp[hn,<-hl,rv.length]) hst λh' hx=>?_
 have I1:Inv X pins σ H { s with heap:=h' }:=I.kept (t':=s.toks) λb o e=>hx b o (Eh (D2 e)) e
 exact h pins _ σ H xs _ Q I1 (by simpa using rv) hw
def AY(to ti:TE)(t:vq):TG:=λv σ H Q=>to σ H λo H1=>ti σ H1 λi H2=>t o i v H2 λH3=>Q σ H3
theorem ye{o i:Expr}{to ti:TE}{t:vq}(ho:PE X o to)(hi:PE X i ti)(hs:AX X t)
  (ha:∀v,assign (.Subscript o i pos) X.env v=(do
   let ov <-OR [v] (eval o X.env)
   let iv <-OR [v,ov] (eval i X.env)
   standAt pos
   OR [v,ov,iv] (setItem ov iv v)
   release [v,ov,iv] []):=by intro _;rfl):PG X (.Subscript o i pos) (AY to ti t):=by
 intro pins s σ H v u Q I r h;rw[ha];refine Ov (Oy (thn (ho pins s σ H _ I h) λov s1 ⟨x,H1,I1,r1,q1⟩=>?_));refine Ov (Oy (thn (hi pins s1 σ H1 _ I1 q1) λiv s2 ⟨y,H2,I2,r2,q2⟩=>?_));refine Ov (OX (Ov (Oy (thn (hs pins s2 σ H2 x y v ov iv u _ I2 r1 r2 r q2) λ_ s3 ⟨H3,I3,q3⟩=>?_))));exact wpAny_release ⟨σ,H3,I3,q3⟩
def nC(te:TE)(g:TG):TS:=λD σ H=>te σ H λx H1=>g x σ H1 D.nx
theorem oO{tg e:Expr}{te:TE}{g:TG}(he:PE X e te)(hg:PG X tg g)(hs:O8 [tg] e pos.line X.env=pure false:=by rfl)(hw:O9 [tg] e X.env=pure none:=by rfl)
  (h1:(OJ [tg] X.env).map (·.2)=[assign tg X.env]:=by rfl):PS X (.Assign [tg] e pos) (nC te g):=by
 intro pins s σ H D I h;refine wpAny_Assign_stores (thn (he pins s σ H _ I h) λv s1 ⟨x,H1,I1,r1,q1⟩=>?_) hs hw;rw[h1];exact thn (hg pins s1 σ H1 x v _ I1 r1 q1) λ_ s2 q=>q
theorem yf{i:Nat}{x:Str}{e:Expr}{te:TE}{pos':Pos}(hN:X.N.Nodup)(hi:X.N[i]? = some x)(hx:Loc X.env.scope x)(he:PE X e te)(hs:OY e (some (.Name x pos')) pos.line X.env=pure false:=by rfl)(hf:X.fn x=true\/X.env.scope.names.lookup x=some .local:=by first|exact .inl rfl|exact .inr rfl|assumption):
  PS X (.Assign [.Name x pos'] e pos) (nC te (dk i)):=by
 intro pins s σ H D I h;refine wpAny_Assign_Name (thn (he pins s σ H _ I h) λv s1 ⟨y,H1,I1,r1,q1⟩=>?_) hs;exact dR I1 hN hi hx r1 (λs2 I2=>⟨_,H1,I2,q1⟩) hf
def AZ(i j:Nat)(ta:TA):TS:=λD σ H=>ta σ H λvs H1=>∃v w,vs=[v,w]/\D.nx ((σ.set i (some v)).set j (some w)) H1
theorem yg{i j:Nat}{x y:Str}{a b:Expr}{ta:TA}{px py pt:Pos}{kt k2 pt2}(hc:X.calm=true)(hN:X.N.Nodup)(hi:X.N[i]? = some x)(hj:X.N[j]? = some y)(hij:i≠j)
  (hx:X.env.scope.names.lookup x=some .local) (hy:X.env.scope.names.lookup y=some .local) (ha:PA X [a,b] ta)
  (hw:O9 [.Tuple [.Name x px,.Name y py] kt pt] (.Tuple [a,b] k2 pt2) X.env=pure (some [x,y]))
  (hs:O8 [.Tuple [.Name x px,.Name y py] kt pt] (.Tuple [a,b] k2 pt2) pos.line X.env=pure false:=by rfl) :
  PS X (.Assign [.Tuple [.Name x px,.Name y py] kt pt] (.Tuple [a,b] k2 pt2) pos) (AZ i j ta):=by
 intro pins s σ H D I h;rw[exec_Assign_arm];refine Ov (OX ?_);rw[hs];refine Ov (Ow ?_);rw[if_neg (by decide)];refine Ov (Tuple_ (thn (ha _ pins s σ H _ I h) λus s1 ⟨vs,H1,I1,r1,q1⟩=>?_));obtain⟨v,w,e1,q1⟩:=q1;subst e1;obtain⟨u1,u2,rfl,rv,rw'⟩:∃u1 u2,us=[u1,u2]/\RelV v u1/\RelV w u2:=by
  cases r1 with
  | cons p q=>
   cases q with
   | cons p' q'=>
    cases q';exact⟨_,_,rfl,p,p'⟩
 refine OB ?_ (by show 2<=Ox;decide);have I2:Inv X pins σ H1 { s1 with heap:=s1.heap.push { cls:=.type "tuple",data:=.seq [u1,u2].toArray } }:=I1.kept (t':=s1.toks) λb o e=>DV _ e
 rw[hw];refine Ov (Ow ?_);show wpAny (model X.prog X.w) X.A (do rule "assign.swapped-stores";let items <-unpackItems (.ref s1.heap.objs.size) 2 none;assignInOrder [λv=>bindName X.env y v,λv=>bindName X.env x v] items.reverse;pure NQ) _ _ _
 refine Ov (O1 (Ov (unpackItems_tuple (items:=#[u1,u2]) (I.ok.hd hc) (Ms s1.heap _) λh' hx'=>?_)));have I3:=I2.kept (h':=h') (t':=s1.toks) λb o e=>hx' b o (Eh (D2 e)) e
 show wpAny _ _ (assignInOrder [λv=>bindName X.env y v,λv=>bindName X.env x v] [u2,u1] >>= λ_=>pure NQ) _ _ _
 refine Ov (assignInOrder_cons (wpAny_bindName (dR I3 hN hj (.inl hy) rw' (λs2 I4=>?_) (.inr hy))));refine assignInOrder_cons (wpAny_bindName (dR I4 hN hi (.inl hx) rv (λs3 I5=>assignInOrder_nil (Ow ?_)) (.inr hx)));rw[List.set_comm _ _ (E5 hij)]at I5;exact⟨_,H1,I5,q1⟩
def A0(i:Nat)(te:TE)(ti:TIp):TS:=λD σ H=>∃x,σ[i]? = some (some x)/\te σ H λy H1=>ti x y H1 λz H2=>D.nx (σ.set i (some z)) H2
theorem yh{i:Nat}{x:Str}{e:Expr}{te:TE}{op:Operator}{ti:TIp}{pos':Pos}(hN:X.N.Nodup)(hi:X.N[i]? = some x)(hx:Loc X.env.scope x)(he:PE X e te)(ho:PIp X op ti)(hf:X.fn x=true\/X.env.scope.names.lookup x=some .local:=by first|exact .inl rfl|exact .inr rfl|assumption):
  PS X (.AugAssign (.Name x pos') op e pos) (A0 i te ti):=by
 intro pins s σ H D I h;obtain⟨v,e1,h⟩:=h;obtain⟨m,hn,hl⟩:=I.loc;have vis:Vis X.env.scope x:=by rcases hx with k|k;exact .inl k;exact .inr (.inl k)
 obtain⟨u,r,l⟩:=hl i x v hi e1 vis;refine wpAny_AugAssign_Name ?_;have go:wpAny (model X.prog X.w) X.A (eval e X.env) (λw s₂=>wpAny (model X.prog X.w) X.A (inplaceOp op u w) (λr s₃=>wpAny (model X.prog X.w) X.A (storeName X.env x r) (λ_=>SP X pins D .next) X.xe s₃) X.xe s₂) X.xe s:=by
  refine thn (he pins s σ H _ I h) λw s1 ⟨y,H1,I1,r1,q1⟩=>?_
  refine thn (ho pins s1 σ H1 v y u w _ I1 r r1 q1) λz s2 ⟨zv,H2,I2,r2,q2⟩=>?_
  exact dR I2 hN hi hx r2 (λs3 I3=>⟨_,H2,I3,q2⟩) hf
 rcases l with⟨hk,hm⟩|⟨hk,c,hc,hcell⟩
 ·exact wpAny_loadName_local I.ok.kind hk hn hm go
 ·rcases hk with hk|hk
  ·exact wpAny_loadName_cell I.ok.kind hk hc hcell go
  ·rcases hx with k|k
   ·have:X.env.scope.names.lookup x=some .free:=hk
    rw[k]at this;cases this
   ·have:X.env.scope.names.lookup x=some .free:=hk
    rw[k]at this;cases this
def rJ(to ti te:TE)(tget:V->V->Hp->VK->Prop)(tip:TIp)(tset:vq):TS:=λD σ H=>to σ H λo H1=>ti σ H1 λi H2=>tget o i H2 λx H3=>te σ H3 λy H4=>tip x y H4 λz H5=>tset o i z H5 λH6=>D.nx σ H6
def A1(X:Cx)(t:V->V->Hp->VK->Prop):Prop:=
 ∀(pins:List (Addr×Obj)) (s:Shared) (σ:St) (H:Hp) (o i:V) (ov iv:Value) (Q:VK),Inv X pins σ H s->RelV o ov->RelV i iv->t o i H Q->
  wpAny (model X.prog X.w) X.A (getItem ov iv) (EP X pins σ Q) X.xe s
theorem oP{o i e:Expr}{to ti te:TE}{tget:V->V->Hp->VK->Prop}{tip:TIp}{tset:vq}{op:Operator}{tpos:Pos}(ho:PE X o to)(hi:PE X i ti)(hg:A1 X tget)(he:PE X e te)(hp:PIp X op tip)(hs:AX X tset)
  (ha:∀ov iv new,augStore i ov iv new=(do OR [new,ov,iv] (setItem ov iv new);release [new,ov,iv] [];pure .next):=by intros;rfl):PS X (.AugAssign (.Subscript o i tpos) op e pos) (rJ to ti te tget tip tset):=by
 intro pins s σ H D I h;refine wpAny_AugAssign_SubscriptAny (thn (ho pins s σ H _ I h) λov s1 ⟨x1,H1,I1,r1,q1⟩=>?_) ha;refine thn (hi pins s1 σ H1 _ I1 q1) λiv s2 ⟨x2,H2,I2,r2,q2⟩=>?_
 refine thn (hg pins s2 σ H2 x1 x2 ov iv _ I2 r1 r2 q2) λold s3 ⟨x3,H3,I3,r3,q3⟩=>?_
 refine thn (he pins s3 σ H3 _ I3 q3) λv s4 ⟨x4,H4,I4,r4,q4⟩=>?_
 refine thn (hp pins s4 σ H4 x3 x4 old v _ I4 r3 r4 q4) λnew s5 ⟨x5,H5,I5,r5,q5⟩=>?_
 exact thn (hs pins s5 σ H5 x1 x2 x5 ov iv new _ I5 r1 r2 r5 q5) λ_ s6 ⟨H6,I6,q6⟩=>⟨σ,H6,I6,q6⟩
noncomputable def ipI(f:Int->Int->Int):TIp:=λx y H Q=>∃i j,x=.int i/\y=.int j/\Q (.int (f i j)) H
theorem uo:PIp X .Add (ipI λi j=>i+j):=by
 intro pins s σ H x y v u Q I r1 r2 h;obtain⟨i,j,e1,e2,q⟩:=h;subst e1;subst e2;obtain⟨t,rfl⟩:=r1;obtain⟨t',rfl⟩:=r2;exact iadd_int ⟨.int _,H,I.tok _,⟨_,rfl⟩,q⟩
end
section
variable{X:Cx}{pos:Pos}
def uq(c:TT)(tb:TS):TS:=λD σ H=>∃W:Nat->St->Hp->Prop,(∃m,W m σ H)/\∀m σ H,W m σ H->
 c σ H λb H1=>if b=true then ∃N:St->Hp->Prop,(∀σ' H',N σ' H'->∃m',m'<m/\W m' σ' H')/\tb { D with nx:=N,ct:=N,bk:=D.nx } σ H1 else D.nx σ H1
theorem rK{c:Expr}{body:List Stmt}{tc:TT}{tb:TS}(hp:PassesOwn (model X.prog X.w) X.A X.env X.xe)(hc:PT X c tc)(hb:PSs X body tb):PS X (.While c body [] pos) (uq tc tb):=by
 intro pins s σ H D I h;obtain⟨W,⟨m0,w0⟩,turn⟩:=h;refine wpAny_While (codeAny_whileLoop (λn s'=>∃σ' H',Inv X pins σ' H' s'/\W n σ' H') ?_ m0 ⟨σ,H,I,w0⟩);rintro n s1 ⟨σ1,H1,I1,w1⟩;refine OU hp (thn (hc pins s1 σ1 H1 _ I1 (turn n σ1 H1 w1)) λb s2 ⟨H2,I2,q2⟩=>?_);cases b with
 | true=>
  obtain⟨N,hN,q2⟩:=q2;rw[if_pos rfl];refine OU hp (thn (hb pins s2 σ1 H2 _ I2 q2) λf s3 q3=>?_);cases f with
  | next=>
   obtain⟨σ3,H3,I3,n3⟩:=q3;obtain⟨m',hm,w3⟩:=hN σ3 H3 n3;exact⟨m',hm,σ3,H3,I3,w3⟩
  | cont=>
   obtain⟨σ3,H3,I3,n3⟩:=q3;obtain⟨m',hm,w3⟩:=hN σ3 H3 n3;exact⟨m',hm,σ3,H3,I3,w3⟩
  | brk=>exact q3
  | ret v=>exact q3
 | false=>
  rw[if_neg Ei];exact wpAny_execs_nil ⟨σ1,H2,I2,q2⟩
end
structure It where
 go:Nat->Hp->Prop
 yld:Nat->Hp->V->Hp->Prop
 stop:Nat->Hp->Prop
def oF(X:Cx)(pins:List (Addr×Obj))(H:Hp)(b:Addr):Prop:=
 H b=none/\b≠X.env.locals/\b∉X.fs/\(b∈X.ex\/X.s₀.heap.objs.size<=b)/\(∀x c,X.env.cells.lookup x=some c->c≠b)/\∀p∈X.pn++pins,p.1≠b
theorem Inv.fpOk{X:Cx}{pins:List (Addr×Obj)}{σ:St}{H H':Hp}{s:Shared}{b:Addr}(I:Inv X pins σ H s)(hb:s.heap.objs.size<=b)(hn:H' b=none):oF X pins H' b:=by
 refine⟨hn,EU (El I.lt hb),I.nofs hb,.inr (ET I.sz hb),λx c e z=>?_,λp hp z=>?_⟩
 ·obtain⟨v,q⟩:=I.cell x c e
  exact absurd (El q.lt (by rw[z];exact hb)) (E9 _)
 ·exact absurd (El (D2 (I.pin p hp).1) (by rw[z];exact hb)) (E9 _)
structure Turn (P:Program) (w:World) (K:DU) (tg:Expr) (J:It) (fp:List Addr) (it:Addr) (tn:Nat->Heap->Prop):Prop where
 mem:it∈fp
 obj:∀i h,tn i h->∀b∈fp,∃o,h.get? b=some o/\∀v,o.data≠.cell v
 keep:∀i h h',tn i h->(∀b∈fp,∀o,h.get? b=some o->h'.get? b=some o)->tn i h'
 item:∀(X:Cx),X.prog=P->X.w=w->X.K=K->X.calm=true->∀(i:Nat) (pins:List (Addr×Obj)) (s:Shared) (σ:St) (H:Hp) (E:Value->Shared->Prop),Inv X pins σ H s->(∀b∈fp,oF X pins H b)->tn i s.heap->J.go i H->
  wpAny (model P w) X.A (pyNext (.ref it)) (λr s1=>∃u,r=some u/\
   wpAny (model P w) X.A (letOwnedTupleGo tg (.ref it) u) (λ_ s2=>∃x H',Inv X pins σ H' s2/\RelV x u/\J.yld i H x H'/\tn (i+1) s2.heap/\∀b∈fp,H' b=none) E s1) E s
 done:∀(X:Cx),X.prog=P->X.w=w->X.K=K->X.calm=true->∀(i:Nat) (pins:List (Addr×Obj)) (s:Shared) (σ:St) (H:Hp) (E:Value->Shared->Prop),Inv X pins σ H s->(∀b∈fp,oF X pins H b)->tn i s.heap->J.stop i H->
  wpAny (model P w) X.A (pyNext (.ref it)) (λr s1=>r=none/\Inv X pins σ H s1) E s
 self:∀(A:Around) (i:Nat) (s:Shared) (Q:Value->Shared->Prop) (E:Value->Shared->Prop),tn i s.heap->Q (.ref it) s->wpAny (model P w) A (pyIter (.ref it)) Q E s
noncomputable abbrev TI:=St->Hp->(It->Hp->Prop)->Prop
def PIE(X:Cx)(pins:List (Addr×Obj))(σ:St)(tg:Expr)(R:It->Hp->Prop)(itv:Value)(s2:Shared):Prop:=
 ∃(it:Addr) (fp:List Addr) (tn:Nat->Heap->Prop) (J:It) (H':Hp),itv=.ref it/\Inv X pins σ H' s2/\Turn X.prog X.w X.K tg J fp it tn/\tn 0 s2.heap/\(∀b∈fp,oF X pins H' b)/\R J H'
def PI(X:Cx)(tg iter:Expr)(wi:TI):Prop:=
 ∀(pins:List (Addr×Obj)) (s:Shared) (σ:St) (H:Hp) (R:It->Hp->Prop),Inv X pins σ H s->wi σ H R->
  wpAny (model X.prog X.w) X.A (eval iter X.env) (λv s1=>wpAny (model X.prog X.w) X.A (pyIter v) (PIE X pins σ tg R) X.xe s1) X.xe s
theorem nD{M:Model}{A:Around}{E:Value->Shared->Prop}{s:Shared}{tg:Expr}{it:Addr}{u:Value}{o:Obj}{n:String}{vs:Array Value}{Q:Unit->Shared->Prop}(ho:s.heap.get? it=some o)(hc:o.cls=.type n)(hd:o.data=.fields vs)
    (hn:["enumerate","zip","dict_itemiterator","dict_reverseitemiterator","odict_iterator","itertools.zip_longest","itertools.pairwise"].contains n=false) (hQ:Q () s):wpAny M A (letOwnedTupleGo tg (.ref it) u) Q E s:=by
  unfold letOwnedTupleGo;cases tg<;>first
    | exact Ow hQ
    | (cases u<;>first
        | exact Ow hQ
        | (refine Ov (wpAny_load ho ?_)
           rw[hc,hd];show wpAny M A (if(["enumerate","zip","dict_itemiterator","dict_reverseitemiterator","odict_iterator","itertools.zip_longest","itertools.pairwise"].contains n && vs[0]? == some (Pc _))=true then _ else _) Q E s
           rw[if_neg (by intro h;rw[hn,Bool.false_and]at h;cases h)];exact Ow hQ))
def Itl(K:DU)(a:Addr):It:=
 ⟨λi H=>∃xs x,SqL K H a xs/\xs[i]? = some x,λi H x H'=>H'=H/\∀xs,SqL K H a xs->xs[i]? = some x,λi H=>∃xs,SqL K H a xs/\xs.length<=i⟩
def Itt(K:DU)(a:Addr):It:=
 ⟨λi H=>∃xs x,SqT K H a xs/\xs[i]? = some x,λi H x H'=>H'=H/\∀xs,SqT K H a xs->xs[i]? = some x,λi H=>∃xs,SqT K H a xs/\xs.length<=i⟩
def Itr(lo:Int)(n:Nat):It:=⟨λi _=>i<n,λi H x H'=>H'=H/\x=.int (lo+i),λi _=>n<=i⟩
theorem oQ{P:Program}{w:World}{K:DU}{tg:Expr}(a it:Addr):Turn P w K tg (Itl K a) [it] it (λi h=>h.IsListIter it a i) where
 mem:=by simp
 obj:=λi h st b hb=>by
  have e:b=it:=by simpa using hb
  subst e;obtain⟨o,e,c,d⟩:=st;exact⟨o,e,λv z=>by rw[d]at z;cases z⟩
 keep:=λi h h' st k=>st.at λo e=>k it (by simp) o e
 item:=by
  intro X hP hw hK hc i pins s σ H E I hf st hg;subst hP hw hK;obtain⟨xs,x,hq,hx⟩:=hg;obtain⟨its,rv,p,hz⟩:=I.list hq;obtain⟨u,hu,ru⟩:=rv.get hx;obtain⟨f0,f1,f2,f3,f4,f5⟩:=hf it (by simp);refine wpAny_pyNext_list_item st p.isList (x:=u) (by simpa using hu) λh' st' sb=>?_
  have I1:Inv X pins σ H { s with heap:=h' }:=I.turned (t':=s.toks) (λb o hb e=>(sb.2 b hb).trans e) f0 f1 f3 f4 f5;obtain⟨o,e,c,d⟩:=id st';exact⟨u,rfl,nD (s:={ s with heap:=h' }) e c d (by decide) ⟨x,H,I1,ru,⟨rfl,λys hy=>by rw[I.list_inj hy hq];exact hx⟩,st',λb hb=>(hf b hb).1⟩⟩
 done:=by
  intro X hP hw hK hc i pins s σ H E I hf st hg;subst hP hw hK;obtain⟨xs,hq,hx⟩:=hg;obtain⟨its,rv,p,hz⟩:=I.list hq;obtain⟨f0,f1,f2,f3,f4,f5⟩:=hf it (by simp);have hl:=rv.length;exact wpAny_pyNext_list_end (I.ok.hd hc) st p.isList (by simp;lia) λh' eb=>⟨rfl,I.turned (t':=s.toks) (λb o hb e=>eb b o hb e) f0 f1 f3 f4 f5⟩
 self:=λ_ _ _ _ _ st h=>wpAny_pyIter_listiter st h
theorem nE{P:Program}{w:World}{K:DU}{tg:Expr}(a it:Addr):Turn P w K tg (Itt K a) [it] it (λi h=>h.IsTupleIter it a i) where
 mem:=by simp
 obj:=λi h st b hb=>by
  have e:b=it:=by simpa using hb
  subst e;obtain⟨o,e,c,d⟩:=st;exact⟨o,e,λv z=>by rw[d]at z;cases z⟩
 keep:=λi h h' st k=>st.at λo e=>k it (by simp) o e
 item:=by
  intro X hP hw hK hc i pins s σ H E I hf st hg;subst hP hw hK;obtain⟨xs,x,hq,hx⟩:=hg;obtain⟨its,rv,p,hz⟩:=I.tuple hq;obtain⟨u,hu,ru⟩:=rv.get hx;obtain⟨f0,f1,f2,f3,f4,f5⟩:=hf it (by simp);refine wpAny_pyNext_tuple_item st (show s.heap.IsTuple a its.toArray from p) (x:=u) (by simpa using hu) λh' st' sb=>?_
  have I1:Inv X pins σ H { s with heap:=h' }:=I.turned (t':=s.toks) (λb o hb e=>(sb.2 b hb).trans e) f0 f1 f3 f4 f5;obtain⟨o,e,c,d⟩:=id st';exact⟨u,rfl,nD (s:={ s with heap:=h' }) e c d (by decide) ⟨x,H,I1,ru,⟨rfl,λys hy=>by rw[I.tuple_inj hy hq];exact hx⟩,st',λb hb=>(hf b hb).1⟩⟩
 done:=by
  intro X hP hw hK hc i pins s σ H E I hf st hg;subst hP hw hK;obtain⟨xs,hq,hx⟩:=hg;obtain⟨its,rv,p,hz⟩:=I.tuple hq;obtain⟨f0,f1,f2,f3,f4,f5⟩:=hf it (by simp);have hl:=rv.length;exact wpAny_pyNext_tuple_end (I.ok.hd hc) st (show s.heap.IsTuple a its.toArray from p) (by simp;lia) λh' eb=>⟨rfl,I.turned (t':=s.toks) (λb o hb e=>eb b o hb e) f0 f1 f3 f4 f5⟩
 self:=λ_ _ _ _ _ st h=>wpAny_pyIter_tupleiter st h
theorem nF{P:Program}{w:World}{K:DU}{tg:Expr}(it:Addr)(lo:Int)(n:Nat):Turn P w K tg (Itr lo n) [it] it (λi h=>IsRangeIter h it (lo+(i:Nat)*1) ((n:Int) - (i:Nat)) 1) where
 mem:=by simp
 obj:=λi h st b hb=>by
  have e:b=it:=by simpa using hb
  subst e;exact⟨_,st,λv z=>by
   have z':Ly _=Mt v:=z;cases z'⟩
 keep:=λi h h' st k=>k it (by simp) _ st
 item:=by
  intro X hP hw hK hc i pins s σ H E I hf st hg;subst hP hw hK;obtain⟨f0,f1,f2,f3,f4,f5⟩:=hf it (by simp);have W:=Lz (prog:=X.prog) (w:=X.w) (I.ok.hd hc) it lo 1 n;refine W.item i s _ _ hg st λv h' tk hv st' kk=>?_
  obtain⟨t,rfl⟩:=hv;have I1:Inv X pins σ H { s with heap:=h',toks:=tk }:=I.turned (λb o hb e=>kk b o (by simpa using hb) e) f0 f1 f3 f4 f5;refine⟨_,rfl,nD (s:={ s with heap:=h',toks:=tk }) (n:="range_iterator") st' rfl rfl (by decide) ⟨.int (lo+i),H,I1,⟨t,?_⟩,⟨rfl,rfl⟩,st',λb hb=>(hf b hb).1⟩⟩;rw[Np]
 done:=by
  intro X hP hw hK hc i pins s σ H E I hf st hg;subst hP hw hK;obtain⟨f0,f1,f2,f3,f4,f5⟩:=hf it (by simp);exact wpAny_pyNext_range_end (I.ok.hd hc) st (by have:n<=i:=hg;lia) λh' eb=>⟨rfl,I.turned (t':=s.toks) (λb o hb e=>eb b o hb e) f0 f1 f3 f4 f5⟩
 self:=λ_ _ _ _ _ st h=>wpAny_pyIter_rangeiter st h
section
variable{X:Cx}{tg:Expr}
def vx(K:DU)(tl:TE):TI:=λσ H R=>tl σ H λx H1=>∃a,x=.ref a/\(∃xs,SqL K H1 a xs)/\R (Itl K a) H1
def A2(K:DU)(tl:TE):TI:=λσ H R=>tl σ H λx H1=>∃a,x=.ref a/\(∃xs,SqT K H1 a xs)/\R (Itt K a) H1
theorem vy{l:Expr}{tl:TE}(hl:PE X l tl):PI X tg l (vx X.K tl):=by
 intro pins s σ H R I h;refine thn (hl pins s σ H _ I h) λv s1 ⟨x,H1,I1,r1,q1⟩=>?_
 obtain⟨a,e,⟨xs,hq⟩,q⟩:=q1;subst e;cases r1;obtain⟨its,rv,p,hz⟩:=I1.list hq;refine O5 p.isList ?_;refine⟨s1.heap.objs.size,[s1.heap.objs.size],_,_,H1,rfl,I1.kept (t':=s1.toks) λb o e=>DV _ e,oQ a _,⟨_,Ea _ rfl,rfl,rfl⟩,λb hb=>?_,q⟩;have e:b=s1.heap.objs.size:=by simpa using hb
 subst e;exact I1.fpOk (DY _) (I1.hok.fresh (DY _))
theorem yi{l:Expr}{tl:TE}(hl:PE X l tl):PI X tg l (A2 X.K tl):=by
 intro pins s σ H R I h;refine thn (hl pins s σ H _ I h) λv s1 ⟨x,H1,I1,r1,q1⟩=>?_
 obtain⟨a,e,⟨xs,hq⟩,q⟩:=q1;subst e;cases r1;obtain⟨its,rv,p,hz⟩:=I1.tuple hq;refine O2 (show s1.heap.IsTuple a its.toArray from p) ?_;refine⟨s1.heap.objs.size,[s1.heap.objs.size],_,_,H1,rfl,I1.kept (t':=s1.toks) λb o e=>DV _ e,nE a _,⟨_,Ea _ rfl,rfl,rfl⟩,λb hb=>?_,q⟩;have e:b=s1.heap.objs.size:=by simpa using hb
 subst e;exact I1.fpOk (DY _) (I1.hok.fresh (DY _))
theorem rL{pins:List (Addr×Obj)}{σ:St}{H:Hp}{s:Shared}{R:It->Hp->Prop}{E:Value->Shared->Prop}{lo hi:Int}{t u v:Tok}{tk:Nat}(I:Inv X pins σ H s)(h1:-(2 ^ 62)<=lo)(h2:lo<2 ^ 62)(h3:-(2 ^ 62)<=hi)(h4:hi<2 ^ 62)
  (q:R (Itr lo (hi - lo).toNat) H):wpAny (model X.prog X.w) X.A (pyIter (.ref s.heap.objs.size)) (PIE X pins σ tg R) E { s with heap:=s.heap.push { cls:=.type "range",data:=.fields #[.int lo t,.int hi u,.int 1 v] },toks:=tk }:=by
 refine wpAny_pyIter_range (J9 ..) (small_one h1 h2 h3 h4) ?_;have I1:Inv X pins σ H { s with heap:=s.heap.push { cls:=.type "range",data:=.fields #[.int lo t,.int hi u,.int 1 v] },toks:=tk }:=I.kept λb o e=>DV _ e
 refine⟨(s.heap.push { cls:=.type "range",data:=.fields #[.int lo t,.int hi u,.int 1 v] }).objs.size,[(s.heap.push { cls:=.type "range",data:=.fields #[.int lo t,.int hi u,.int 1 v] }).objs.size],_,_,H,rfl,
  I1.kept (t':=tk) λb o e=>DV _ e,nF _ lo (hi - lo).toNat,?_,λb hb=>?_,q⟩
 ·have e1:lo+((0:Nat):Int)*1=lo:=by simp
  have e2:(((hi - lo).toNat:Nat):Int) - ((0:Nat):Int)=Fq lo hi 1:=by rw[rangeSize_one];split<;>lia
  show IsRangeIter _ _ (lo+((0:Nat):Int)*1) ((((hi - lo).toNat:Nat):Int) - ((0:Nat):Int)) 1
  rw[e1,e2];exact Ea _ rfl
 ·have e:b=(s.heap.push { cls:=.type "range",data:=.fields #[.int lo t,.int hi u,.int 1 v] }).objs.size:=by simpa using hb
  subst e;exact I1.fpOk (DY _) (I1.hok.fresh (DY _))
def vz(ta:TA):TI:=λσ H R=>ta σ H λvs H1=>∃j:Int,vs=[.int j]/\-(2 ^ 62)<=j/\j<2 ^ 62/\R (Itr 0 j.toNat) H1
theorem oR {a:Expr}{ta:TA}{p pos:Pos}(hg:Gl X "range") (hm:X.mg "range" = none) (ha:PA X [a] ta) (hs:starEach [a] X.env=[(false,eval a X.env)]:=by rfl):PI X tg (.Call (.Name "range" p) [a] [] pos) (vz ta):=by
 intro pins s σ H R I h;refine Call_ (de I hg hm boot_range (EY (thn (ha pos pins s σ H _ I h) λus s1 ⟨vs,H1,I1,r1,q1⟩=>?_) hs rfl));obtain⟨j,e,q1,q2,q⟩:=q1;subst e;cases r1 with
 | cons r rr=>
  cases rr;obtain⟨t,rfl⟩:=r;exact call_range_1 (rL I1 ⋯ ⋯ q1 q2 (by simpa using q))
def A3(wi:TI)(g:TG)(tb:TS):TS:=λD σ H=>wi σ H λJ H1=>∃W:Nat->Nat->St->Hp->Prop,(∃m,W 0 m σ H1)/\∀i m σ H,W i m σ H->
 (J.stop i H/\D.nx σ H)\/(J.go i H/\∃N:St->Hp->Prop,(∀σ' H',N σ' H'->∃m',m'<m/\W (i+1) m' σ' H')/\∀x H',J.yld i H x H'->g x σ H' λσ2 H2=>tb { D with nx:=N,ct:=N,bk:=D.nx } σ2 H2)
noncomputable def lZ(fp:List Addr)(h:Heap):List (Addr×Obj):=fp.filterMap λb=>(h.get? b).map λo=>(b,o)
theorem cO{fp:List Addr}{h:Heap}{b:Addr}{o:Obj}(hb:b∈fp)(e:h.get? b=some o):(b,o)∈lZ fp h:=KU.mpr ⟨b,hb,by rw[e];rfl⟩
theorem oS{fp:List Addr}{h:Heap}{p:Addr×Obj}(hp:p∈lZ fp h):p.1∈fp/\h.get? p.1=some p.2:=by
 obtain⟨b,hb,e⟩:=KU.mp hp;cases q:h.get? b with
 | none=>rw[q]at e;cases e
 | some o=>
  rw[q]at e;have e':(b,o)=p:=Er e;subst e';exact⟨hb,q⟩
theorem Inv.pinned{pins:List (Addr×Obj)}{σ:St}{H:Hp}{s:Shared}{fp:List Addr}(I:Inv X pins σ H s)(hf:∀b∈fp,oF X pins H b)(ho:∀b∈fp,∃o,s.heap.get? b=some o/\∀v,o.data≠.cell v):Inv X (pins++lZ fp s.heap) σ H s:=
 I.pins_of λp hp=>(Et.mp hp).elim (λz=>I.pin p (Eg _ z)) λz=>by
  obtain⟨hb,e⟩:=oS z;obtain⟨f0,f1,f2,_⟩:=hf p.1 hb;obtain⟨o,e',d⟩:=ho p.1 hb;rw[e]at e';cases e';exact⟨e,f0,f1,f2,d⟩
theorem Inv.unpinned{pins pl:List (Addr×Obj)}{σ:St}{H:Hp}{s:Shared}(I:Inv X (pins++pl) σ H s):Inv X pins σ H s:=I.pins_of λp hp=>I.pin p (Eg _ (EZ _ hp))
theorem yj{iter:Expr}{body:List Stmt}{wi:TI}{g:TG}{tb:TS}{pos:Pos}(hp:PassesOwn (model X.prog X.w) X.A X.env X.xe)(hc:X.calm=true)(hi:PI X tg iter wi)(hg:PG X tg g)(hb:PSs X body tb)
  (hs:∀x,Oz iter X.env x=pure x:=by intro _;rfl):PS X (.For tg iter body [] pos) (A3 wi g tb):=by
 intro pins s σ H D I h;refine wpAny_For (thn (hi pins s σ H _ I h) λv s1 h1=>thn h1 λitv s2 h2=>?_) hs;obtain⟨it,fp,tn,J,H2,e,I2,T,st2,f2,W,⟨m0,w0⟩,turn⟩:=h2;subst e
 -- what stays true of the iterator's objects through the loop
 have stat:∀{H':Hp},(∀b∈fp,H' b=none)->∀b∈fp,oF X pins H' b:=λhn b hb=>⟨hn b hb,(f2 b hb).2⟩
 refine codeAny_forLoop_any (λn s'=>∃i σ' H',Inv X pins σ' H' s'/\tn i s'.heap/\(∀b∈fp,H' b=none)/\W i n σ' H') ?_ m0 ⟨0,σ,H2,I2,st2,λb hb=>(f2 b hb).1,w0⟩;rintro n s3 ⟨i,σ3,H3,I3,st3,fr3,w3⟩;rcases turn i n σ3 H3 w3 with⟨stop,qn⟩|⟨go,N,hN,step⟩
 ·refine OU hp (thn (T.done X rfl rfl rfl hc i pins s3 σ3 H3 X.xe I3 (stat fr3) st3 stop) λr s4 ⟨hr,I4⟩=>?_)
  subst hr;exact wpAny_execs_nil ⟨σ3,H3,I4,qn⟩
 ·refine OU hp (thn (T.item X rfl rfl rfl hc i pins s3 σ3 H3 X.xe I3 (stat fr3) st3 go) λr s4 ⟨u,hr,h4⟩=>?_)
  subst hr;refine OU hp (thn h4 λ_ s5 ⟨x,H5,I5,r5,y5,st5,fr5⟩=>?_);have I5':=I5.pinned (stat fr5) (T.obj _ _ st5);refine OU hp (thn (hg _ s5 σ3 H5 x u _ I5' r5 (step x H5 y5)) λ_ s6 ⟨σ6,H6,I6,q6⟩=>?_);refine OU hp (thn (hb _ s6 σ6 H6 _ I6 q6) λf s7 q7=>?_);have again:∀{σ7:St}{H7:Hp},Inv X (pins++lZ fp s5.heap) σ7 H7 s7->N σ7 H7->∃m,m<n/\∃i σ' H',Inv X pins σ' H' s7/\tn i s7.heap/\(∀b∈fp,H' b=none)/\W i m σ' H':=λ{σ7 H7} I7 n7=>by
   obtain⟨m',hm,w7⟩:=hN σ7 H7 n7;refine⟨m',hm,i+1,σ7,H7,I7.unpinned,T.keep _ _ _ st5 λb hb o e=>(I7.pin (b,o) (Eg _ (Eg _ (cO hb e)))).1,λb hb=>?_,w7⟩;obtain⟨o,e,d⟩:=T.obj _ _ st5 b hb;exact(I7.pin (b,o) (Eg _ (Eg _ (cO hb e)))).2.1
  cases f with
  | next=>obtain⟨σ7,H7,I7,n7⟩:=q7;exact again I7 n7
  | cont=>obtain⟨σ7,H7,I7,n7⟩:=q7;exact again I7 n7
  | brk=>obtain⟨σ7,H7,I7,q7⟩:=q7;exact⟨σ7,H7,I7.unpinned,q7⟩
  | ret v=>obtain⟨x7,σ7,H7,I7,r7,q7⟩:=q7;exact⟨x7,σ7,H7,I7.unpinned,r7,q7⟩
end
theorem cF{K:DU}{a:Addr}{xs:List V}{g:TG}{tb:TS}{D:Ends}{σ:St}{H:Hp}(Pv:Nat->St->Hp->Prop)(h0:Pv 0 σ H)(hl:∀i σ H,i<=xs.length->Pv i σ H->SqL K H a xs)
  (hs:∀i x σ H,xs[i]? = some x->Pv i σ H->g x σ H λσ2 H2=>tb { D with nx:=Pv (i+1),ct:=Pv (i+1),bk:=D.nx } σ2 H2) (hd:∀σ H,Pv xs.length σ H->D.nx σ H) :
  ∃W:Nat->Nat->St->Hp->Prop,(∃m,W 0 m σ H)/\∀i m σ H,W i m σ H->
   ((Itl K a).stop i H/\D.nx σ H)\/((Itl K a).go i H/\∃N:St->Hp->Prop,(∀σ' H',N σ' H'->∃m',m'<m/\W (i+1) m' σ' H')/\∀x H',(Itl K a).yld i H x H'->g x σ H' λσ2 H2=>tb { D with nx:=N,ct:=N,bk:=D.nx } σ2 H2):=by
 refine⟨λi m σ H=>m=xs.length - i/\i<=xs.length/\Pv i σ H,⟨xs.length,by simp,Ec _,h0⟩,?_⟩;rintro i m σ H ⟨rfl,hi,p⟩;have q:=hl i σ H hi p;by_cases hlt:i<xs.length
 ·refine .inr ⟨⟨xs,xs[i],q,by simp[hlt]⟩,Pv (i+1),λσ' H' p'=>⟨xs.length - (i+1),by lia,rfl,hlt,p'⟩,λx H' y=>?_⟩
  obtain⟨e,y⟩:=y;subst e;exact hs i x σ _ (y xs q) p
 ·have e:i=xs.length:=by lia
  subst e;exact .inl ⟨⟨xs,q,DY _⟩,hd σ H p⟩
theorem oT{K:DU}{a:Addr}{xs:List V}{g:TG}{tb:TS}{D:Ends}{σ:St}{H:Hp}(Pv:Nat->St->Hp->Prop)(h0:Pv 0 σ H)(hl:∀i σ H,i<=xs.length->Pv i σ H->SqT K H a xs)
  (hs:∀i x σ H,xs[i]? = some x->Pv i σ H->g x σ H λσ2 H2=>tb { D with nx:=Pv (i+1),ct:=Pv (i+1),bk:=D.nx } σ2 H2) (hd:∀σ H,Pv xs.length σ H->D.nx σ H) :
  ∃W:Nat->Nat->St->Hp->Prop,(∃m,W 0 m σ H)/\∀i m σ H,W i m σ H->
   ((Itt K a).stop i H/\D.nx σ H)\/((Itt K a).go i H/\∃N:St->Hp->Prop,(∀σ' H',N σ' H'->∃m',m'<m/\W (i+1) m' σ' H')/\∀x H',(Itt K a).yld i H x H'->g x σ H' λσ2 H2=>tb { D with nx:=N,ct:=N,bk:=D.nx } σ2 H2):=by
 refine⟨λi m σ H=>m=xs.length - i/\i<=xs.length/\Pv i σ H,⟨xs.length,by simp,Ec _,h0⟩,?_⟩;rintro i m σ H ⟨rfl,hi,p⟩;have q:=hl i σ H hi p;by_cases hlt:i<xs.length
 ·refine .inr ⟨⟨xs,xs[i],q,by simp[hlt]⟩,Pv (i+1),λσ' H' p'=>⟨xs.length - (i+1),by lia,rfl,hlt,p'⟩,λx H' y=>?_⟩
  obtain⟨e,y⟩:=y;subst e;exact hs i x σ _ (y xs q) p
 ·have e:i=xs.length:=by lia
  subst e;exact .inl ⟨⟨xs,q,DY _⟩,hd σ H p⟩
theorem eT{lo:Int}{n:Nat}{g:TG}{tb:TS}{D:Ends}{σ:St}{H:Hp}(Pv:Nat->St->Hp->Prop)(h0:Pv 0 σ H)
  (hs:∀i σ H,i<n->Pv i σ H->g (.int (lo+i)) σ H λσ2 H2=>tb { D with nx:=Pv (i+1),ct:=Pv (i+1),bk:=D.nx } σ2 H2) (hd:∀σ H,Pv n σ H->D.nx σ H) :
  ∃W:Nat->Nat->St->Hp->Prop,(∃m,W 0 m σ H)/\∀i m σ H,W i m σ H->
   ((Itr lo n).stop i H/\D.nx σ H)\/((Itr lo n).go i H/\∃N:St->Hp->Prop,(∀σ' H',N σ' H'->∃m',m'<m/\W (i+1) m' σ' H')/\∀x H',(Itr lo n).yld i H x H'->g x σ H' λσ2 H2=>tb { D with nx:=N,ct:=N,bk:=D.nx } σ2 H2):=by
 refine⟨λi m σ H=>m=n - i/\i<=n/\Pv i σ H,⟨n,by simp,Ec _,h0⟩,?_⟩;rintro i m σ H ⟨rfl,hi,p⟩;by_cases hlt:i<n
 ·refine .inr ⟨hlt,Pv (i+1),λσ' H' p'=>⟨n - (i+1),by lia,rfl,hlt,p'⟩,λx H' y=>?_⟩
  obtain⟨e,y⟩:=y;subst e y;exact hs i σ _ hlt p
 ·have e:i=n:=by lia
  subst e;exact .inl ⟨DY _,hd σ H p⟩
noncomputable abbrev R2:=V->V->Hp->VK->Prop
def OpR(X:Cx)(f:Value->Value->Sem Value)(r:R2):Prop:=
 ∀(pins:List (Addr×Obj)) (s:Shared) (σ:St) (H:Hp) (x y:V) (v u:Value) (Q:VK),Inv X pins σ H s->RelV x v->RelV y u->r x y H Q->
  wpAny (model X.prog X.w) X.A (f v u) (EP X pins σ Q) X.xe s
def UnR(X:Cx)(f:Value->Sem Value)(r:V->Hp->VK->Prop):Prop:=
 ∀(pins:List (Addr×Obj)) (s:Shared) (σ:St) (H:Hp) (x:V) (v:Value) (Q:VK),Inv X pins σ H s->RelV x v->r x H Q->
  wpAny (model X.prog X.w) X.A (f v) (EP X pins σ Q) X.xe s
def cL(X:Cx)(f:Value)(r:List V->Hp->VK->Prop):Prop:=
 ∀(pins:List (Addr×Obj)) (s:Shared) (σ:St) (H:Hp) (xs:List V) (us:List Value) (Q:VK),Inv X pins σ H s->Vals xs us->r xs H Q->
  wpAny (model X.prog X.w) X.A (call f us) (EP X pins σ Q) X.xe s
def Dg(X:Cx)(r:V->Hp->(Bool->Hp->Prop)->Prop):Prop:=
 ∀(pins:List (Addr×Obj)) (s:Shared) (σ:St) (H:Hp) (x:V) (v:Value) (Q:Bool->Hp->Prop),Inv X pins σ H s->RelV x v->r x H Q->
  wpAny (model X.prog X.w) X.A (truthy v) (TP X pins σ Q) X.xe s
def tOp(r:R2)(ta tb:TE):TE:=λσ H Q=>ta σ H λx H1=>tb σ H1 λy H2=>r x y H2 Q
def tUn(r:V->Hp->VK->Prop)(ta:TE):TE:=λσ H Q=>ta σ H λx H1=>r x H1 Q
def rI(C:Int->Int->Prop)(g:Int->Int->V):R2:=λx y H Q=>∃i j,x=.int i/\y=.int j/\C i j/\Q (g i j) H
def rI0(g:Int->Int->V):R2:=λx y H Q=>∃i j,x=.int i/\y=.int j/\Q (g i j) H
def rU(g:Int->V):V->Hp->VK->Prop:=λx H Q=>∃i,x=.int i/\Q (g i) H
section
variable{X:Cx}{a b c:Expr}{ta tb tc:TE}{pos:Pos}
theorem A4(ha:PE X a ta)(hb:PE X b tb){pins:List (Addr×Obj)}{s:Shared}{σ:St}{H:Hp}{R:V->V->Hp->Prop}(I:Inv X pins σ H s)
  (h:ta σ H λx H1=>tb σ H1 λy H2=>R x y H2){Q:Value->Shared->Prop}{f:Value->Value->Sem Value}
  (hf:∀v u s2 x y H2,Inv X pins σ H2 s2->RelV x v->RelV y u->R x y H2->wpAny (model X.prog X.w) X.A (f v u) Q X.xe s2) :
  wpAny (model X.prog X.w) X.A (eval a X.env) (λv s₁=>wpAny (model X.prog X.w) X.A (eval b X.env) (λu s₂=>wpAny (model X.prog X.w) X.A (f v u) Q X.xe s₂) X.xe s₁) X.xe s:=by
 refine thn (ha pins s σ H _ I h) λv s1 ⟨x,H1,I1,r1,q1⟩=>?_
 refine thn (hb pins s1 σ H1 _ I1 q1) λu s2 ⟨y,H2,I2,r2,q2⟩=>?_
 exact hf v u s2 x y H2 I2 r1 r2 q2
theorem A5{op:Operator}{r:R2}(ho:OpR X (ON op) r)(ha:PE X a ta)(hb:PE X b tb):PE X (.BinOp a op b pos) (tOp r ta tb):=by
 intro pins s σ H Q I h;exact wpAny_BinOp (A4 ha hb I h λv u s2 x y H2 I2 rx ry q=>ho pins s2 σ H2 x y v u Q I2 rx ry q)
theorem yk{op:UnaryOp}{r:V->Hp->VK->Prop}(ho:UnR X (unaryOp op) r)(ha:PE X a ta):PE X (.UnaryOp op a pos) (tUn r ta):=by
 intro pins s σ H Q I h;exact UnaryOp_ (thn (ha pins s σ H _ I h) λv s1 ⟨x,H1,I1,r1,q1⟩=>ho pins s1 σ H1 x v Q I1 r1 q1)
theorem opI{f:Value->Value->Sem Value}{C:Int->Int->Prop}{g:Int->Int->Int}
  (rule:∀(i j:Int) (t u:Tok) (s:Shared) (Q:Value->Shared->Prop) (E:Value->Shared->Prop),C i j->Q (.int (g i j) s.toks) { s with toks:=s.toks+1 }->wpAny (model X.prog X.w) X.A (f (.int i t) (.int j u)) Q E s) :
  OpR X f (rI C λi j=>.int (g i j)):=by
 intro pins s σ H x y v u Q I rx ry h;obtain⟨i,j,rfl,rfl,hc,q⟩:=h;obtain⟨t,rfl⟩:=rx;obtain⟨t',rfl⟩:=ry;exact rule i j t t' s _ _ hc ⟨.int (g i j),H,I.tok _,⟨_,rfl⟩,q⟩
theorem A6{f:Value->Value->Sem Value}{g:Int->Int->Int}
  (rule:∀(i j:Int) (t u:Tok) (s:Shared) (Q:Value->Shared->Prop) (E:Value->Shared->Prop),Q (.int (g i j) s.toks) { s with toks:=s.toks+1 }->wpAny (model X.prog X.w) X.A (f (.int i t) (.int j u)) Q E s) :
  OpR X f (rI0 λi j=>.int (g i j)):=by
 intro pins s σ H x y v u Q I rx ry h;obtain⟨i,j,rfl,rfl,q⟩:=h;obtain⟨t,rfl⟩:=rx;obtain⟨t',rfl⟩:=ry;exact rule i j t t' s _ _ ⟨.int (g i j),H,I.tok _,⟨_,rfl⟩,q⟩
theorem A7{f:Value->Value->Sem Value}{g:Int->Int->Bool}
  (rule:∀(i j:Int) (t u:Tok) (s:Shared) (Q:Value->Shared->Prop) (E:Value->Shared->Prop),Q (.bool (g i j)) s->wpAny (model X.prog X.w) X.A (f (.int i t) (.int j u)) Q E s) :
  OpR X f (rI0 λi j=>.bl (g i j)):=by
 intro pins s σ H x y v u Q I rx ry h;obtain⟨i,j,rfl,rfl,q⟩:=h;obtain⟨t,rfl⟩:=rx;obtain⟨t',rfl⟩:=ry;exact rule i j t t' s _ _ ⟨.bl (g i j),H,I,rfl,q⟩
def A8(i j:Int):Prop:=0<j/\j<1073741824
def Ak(i j:Int):Prop:=0<=j/\j<=1000000/\i.natAbs<2 ^ 64
def CMul(i j:Int):Prop:=(-(2 ^ 64)<i/\i<2 ^ 64)\/(-(2 ^ 64)<j/\j<2 ^ 64)
theorem CMul.ok{i j:Int}(h:CMul i j):IntMulOk i j:=by
 rcases h with⟨h1,h2⟩|⟨h1,h2⟩
 ·exact .of_left (intBits_le_64 h1 h2)
 ·exact .of_right (intBits_le_64 h1 h2)
theorem yl:OpR X (ON .Add) (rI0 λi j=>.int (i+j)):=A6 λ_ _ _ _ _ _ _ q=>add_int q
theorem ym:OpR X (ON .Sub) (rI0 λi j=>.int (i - j)):=A6 λ_ _ _ _ _ _ _ q=>sub_int q
theorem yn:OpR X (ON .Mult) (rI CMul λi j=>.int (i*j)):=opI λ_ _ _ _ _ _ _ hc q=>mul_int q hc.ok
theorem yo:OpR X (ON .Mod) (rI (λ_ j=>0<j) λi j=>.int (i % j)):=opI λi j _ _ _ _ _ hc q=>by
 have h1:(0:Int)<j:=hc;exact mod_int' ⋯ (by rw[Int.fmod_eq_emod_of_nonneg i ⋯];exact q)
theorem yp:OpR X (ON .Pow) (rI Ak λi j=>.int (i ^ j.toNat)):=opI λ_ _ _ _ _ _ _ hc q=>pow_int_small hc.1 hc.2.1 hc.2.2 q
theorem vA:OpR X (inplaceOp .Add) (rI0 λi j=>.int (i+j)):=A6 λ_ _ _ _ _ _ _ q=>iadd_int q
theorem rM:OpR X (inplaceOp .FloorDiv) (rI A8 λi j=>.int (i / j)):=opI λi j _ _ _ _ _ hc q=>by
 have h1:(0:Int)<j:=hc.1;have h2:j<1073741824:=hc.2;exact ifloordiv_int ⋯ (by rw[I0 i ⋯];exact q) (.inl (PyProof.noPylong_small ⋯))
theorem unI{f:Value->Sem Value}{g:Int->Int}
  (rule:∀(i:Int) (t:Tok) (s:Shared) (Q:Value->Shared->Prop) (E:Value->Shared->Prop),Q (.int (g i) s.toks) { s with toks:=s.toks+1 }->wpAny (model X.prog X.w) X.A (f (.int i t)) Q E s) :
  UnR X f (rU λi=>.int (g i)):=by
 intro pins s σ H x v Q I rx h;obtain⟨i,rfl,q⟩:=h;obtain⟨t,rfl⟩:=rx;exact rule i t s _ _ ⟨.int (g i),H,I.tok _,⟨_,rfl⟩,q⟩
theorem ur:UnR X (unaryOp .USub) (rU λi=>.int (-i)):=unI λ_ _ _ _ _ q=>neg_int q
end
noncomputable def Cv:V->V->Bool
 | .non,.non=>true | .non,.int _=>true | .int _,.non=>true | .non,.bl _=>true | .bl _,.non=>true | .non,.str _=>true | .str _,.non=>true
 | .int _,.int _=>true | .bl _,.bl _=>true | .str _,.str _=>true | .byt _,.byt _=>true
 | .int _,.str _=>true | .str _,.int _=>true | .bl _,.str _=>true | .str _,.bl _=>true
 | _,_=>false
def rEq:R2:=λx y H Q=>Cv x y=true/\Q (.bl (decide (x=y))) H
def rNe:R2:=λx y H Q=>Cv x y=true/\Q (.bl (!decide (x=y))) H
theorem oU{i j:Int}:decide (V.int i=V.int j)=(i == j):=by
 rw[GH];simp
theorem uu{i j:Bool}:decide (V.bl i=V.bl j)=(i == j):=by
 rw[GH];simp
theorem oV{i j:Str}:decide (V.str i=V.str j)=(i == j):=by
 rw[GH];simp
theorem oW{i j:Array UInt8}:decide (V.byt i=V.byt j)=(i.toList == j.toList):=by
 rw[GH];cases i;cases j;simp
section
variable{X:Cx}{a b c:Expr}{ta tb tc:TE}{pos:Pos}
theorem bG{pins:List (Addr×Obj)}{σ:St}{H:Hp}{s:Shared}{Q:VK}{k k':Bool}(I:Inv X pins σ H s)(q:Q (.bl k) H)(e:k=k'):EP X pins σ Q (.bool k') s:=by
 subst e;exact⟨.bl k,H,I,rfl,q⟩
theorem A9:OpR X (OC .Eq) rEq:=by
 intro pins s σ H x y v u Q I rx ry h;obtain⟨hs,q⟩:=h;cases x with
 | non=>
  cases rx;cases y with
  | non=>cases ry;exact MD (bG I q (by simp))
  | bl j=>cases ry;exact ME (bG I q (by simp))
  | int j=>obtain⟨t',rfl⟩:=ry;exact MS (bG I q (by simp))
  | str j=>obtain⟨t',rfl⟩:=ry;exact MT (bG I q (by simp))
  | _=>exact absurd (show false=true from hs) Ei
 | bl i=>
  cases rx;cases y with
  | non=>cases ry;exact MF (bG I q (by simp))
  | bl j=>cases ry;exact eq_bool (bG I q uu)
  | str j=>obtain⟨t',rfl⟩:=ry;exact MG (bG I q (by simp))
  | _=>exact absurd (show false=true from hs) Ei
 | int i=>
  obtain⟨t,rfl⟩:=rx;cases y with
  | non=>cases ry;exact MU (bG I q (by simp))
  | int j=>obtain⟨t',rfl⟩:=ry;exact eq_int (bG I q oU)
  | str j=>obtain⟨t',rfl⟩:=ry;exact MV (bG I q (by simp))
  | _=>exact absurd (show false=true from hs) Ei
 | str i=>
  obtain⟨t,rfl⟩:=rx;cases y with
  | non=>cases ry;exact MW (bG I q (by simp))
  | bl j=>cases ry;exact MH (bG I q (by simp))
  | int j=>obtain⟨t',rfl⟩:=ry;exact MX (bG I q (by simp))
  | str j=>obtain⟨t',rfl⟩:=ry;exact eq_str (bG I q oV)
  | _=>exact absurd (show false=true from hs) Ei
 | byt i=>
  obtain⟨t,rfl⟩:=rx;cases y with
  | byt j=>obtain⟨t',rfl⟩:=ry;exact PySem.W.eq_bytes (bG I q oW)
  | _=>exact absurd (show false=true from hs) Ei
 | _=>cases y<;>exact absurd (show false=true from hs) Ei
theorem Ba:OpR X (OC .NotEq) rNe:=by
 intro pins s σ H x y v u Q I rx ry h;obtain⟨hs,q⟩:=h;cases x with
 | non=>
  cases rx;cases y with
  | non=>cases ry;exact MI (bG I q (by simp))
  | bl j=>cases ry;exact MJ (bG I q (by simp))
  | int j=>obtain⟨t',rfl⟩:=ry;exact MY (bG I q (by simp))
  | str j=>obtain⟨t',rfl⟩:=ry;exact MZ (bG I q (by simp))
  | _=>exact absurd (show false=true from hs) Ei
 | bl i=>
  cases rx;cases y with
  | non=>cases ry;exact MK (bG I q (by simp))
  | bl j=>cases ry;exact ne_bool (bG I q (congrArg not uu))
  | str j=>obtain⟨t',rfl⟩:=ry;exact ML (bG I q (by simp))
  | _=>exact absurd (show false=true from hs) Ei
 | int i=>
  obtain⟨t,rfl⟩:=rx;cases y with
  | non=>cases ry;exact M0 (bG I q (by simp))
  | int j=>obtain⟨t',rfl⟩:=ry;exact ne_int (bG I q (congrArg not oU))
  | str j=>obtain⟨t',rfl⟩:=ry;exact M1 (bG I q (by simp))
  | _=>exact absurd (show false=true from hs) Ei
 | str i=>
  obtain⟨t,rfl⟩:=rx;cases y with
  | non=>cases ry;exact M3 (bG I q (by simp))
  | bl j=>cases ry;exact MM (bG I q (by simp))
  | int j=>obtain⟨t',rfl⟩:=ry;exact M4 (bG I q (by simp))
  | str j=>obtain⟨t',rfl⟩:=ry;exact ne_str (bG I q (congrArg not oV))
  | _=>exact absurd (show false=true from hs) Ei
 | byt i=>
  obtain⟨t,rfl⟩:=rx;cases y with
  | byt j=>obtain⟨t',rfl⟩:=ry;exact PySem.W.ne_bytes (bG I q (congrArg not oW))
  | _=>exact absurd (show false=true from hs) Ei
 | _=>cases y<;>exact absurd (show false=true from hs) Ei
theorem Bb:OpR X (OC .Lt) (rI0 λi j=>.bl (decide (i<j))):=A7 λ_ _ _ _ _ _ _ q=>lt_int q
theorem Bc:OpR X (OC .Gt) (rI0 λi j=>.bl (decide (j<i))):=A7 λ_ _ _ _ _ _ _ q=>gt_int q
theorem Bd:OpR X (OC .GtE) (rI0 λi j=>.bl (decide (j<=i))):=A7 λ_ _ _ _ _ _ _ q=>ge_int q
theorem oX:OpR X (OC .Lt) (λx y H Q=>∃i j,x=.str i/\y=.str j/\Q (.bl (decide (i.cps.toList<j.cps.toList))) H):=by
 intro pins s σ H x y v u Q I rx ry h;obtain⟨i,j,rfl,rfl,q⟩:=h;obtain⟨t,rfl⟩:=rx;obtain⟨t',rfl⟩:=ry;exact lt_str (bG I q rfl)
theorem yq:OpR X (OC .Is) (λx y H Q=>y=.non/\Q (.bl (decide (x=.non))) H):=by
 intro pins s σ H x y v u Q I rx ry h;obtain⟨rfl,q⟩:=h;cases ry;refine is_none_gen (bG I q ?_);cases x<;>first
  | (cases rx;rfl)
  | (obtain⟨t,rfl⟩:=rx;rfl)
theorem az(b:Expr){op:CmpOp}(h:op≠.In:=by decide)(h2:op≠.NotIn:=by decide):Pa op b=false:=by
 have e1:(op == CmpOp.In)=false:=by cases op<;>first|rfl|exact absurd rfl h
 have e2:(op == CmpOp.NotIn)=false:=by cases op<;>first|rfl|exact absurd rfl h2
 cases b<;>simp[Pa,e1,e2]
theorem vB{op:CmpOp}{r:R2}(ho:OpR X (OC op) r)(ha:PE X a ta)(hb:PE X b tb)(hm:Pa op b=false):PE X (.Compare a [op] [b] pos) (tOp r ta tb):=by
 intro pins s σ H Q I h;exact wpAny_Compare1 (A4 ha hb I h λv u s2 x y H2 I2 rx ry q=>ho pins s2 σ H2 x y v u Q I2 rx ry q) hm
def vC(t:TE):TT:=λσ H Q=>t σ H λx H'=>∃k,x=.bl k/\Q k H'
theorem vD{op:CmpOp}{r:R2}(ho:OpR X (OC op) r)(ha:PE X a ta)(hb:PE X b tb)(hm:Pa op b=false):PT X (.Compare a [op] [b] pos) (vC (tOp r ta tb)):=by
 intro pins s σ H Q I h;refine wpAny_isTrue_Compare1 (thn (ha pins s σ H _ I h) λv s1 ⟨x,H1,I1,r1,q1⟩=>thn (hb pins s1 σ H1 _ I1 q1) λu s2 ⟨y,H2,I2,r2,q2⟩=>
  thn (ho pins s2 σ H2 x y v u _ I2 r1 r2 q2) λc s3 ⟨z,H3,I3,r3,k,e,q3⟩=>?_) hm
 subst e;cases r3;exact OO ⟨H3,I3,q3⟩
def xH(K:DU)(x:V)(H:Hp)(k:Bool):Prop:=
 match x with
 | .non=>k=false
 | .bl b=>k=b
 | .int i=>k=(i != 0)
 | .str y=>y.length<=Ox/\k=((y.length:Int) != 0)
 | .byt y=>y.size<=Ox/\k=((y.size:Int) != 0)
 | .ref p=>(∃xs,SqL K H p xs/\k=!xs.isEmpty)\/(∃xs,SqT K H p xs/\k=!xs.isEmpty)\/∃kvs,H p=some (.dK kvs)/\k=!kvs.isEmpty
 | _=>False
theorem nG{κ:Type}{kvs:List (κ×V)}{vs:List (κ×Value)}(r:KV kvs vs):(!vs.isEmpty)=!kvs.isEmpty:=by
 cases r<;>rfl
theorem iM{xs:List V}{its:List Value}(r:Vals xs its):(!its.toArray.isEmpty)=!xs.isEmpty:=by
 cases r<;>simp
theorem ee:(Ox:Nat)<2 ^ 63:=by rw[OW];decide
theorem yr:Dg X (λx H Q=>∃k,xH X.K x H k/\Q k H):=by
 intro pins s σ H x v Q I rx h;obtain⟨k,e,q⟩:=h;have hl:=ee;have hs:Ox=16777216:=OW;cases x with
 | non=>
  cases rx;have e':k=false:=e;subst e';exact truthy_none ⟨H,I,q⟩
 | bl b=>
  cases rx;have e':k=b:=e;subst e';exact OO ⟨H,I,q⟩
 | int i=>
  obtain⟨t,rfl⟩:=rx;have e':k=(i != 0):=e;subst e';exact PySem.P.truthy_int ⟨H,I,q⟩
 | str y=>
  obtain⟨t,rfl⟩:=rx;obtain⟨hy,e'⟩:y.length<=Ox/\k=((y.length:Int) != 0):=e;subst e';exact PySem.P.truthy_str ⋯ ⟨H,I.tok _,q⟩
 | byt y=>
  obtain⟨t,rfl⟩:=rx;obtain⟨hy,e'⟩:y.size<=Ox/\k=((y.size:Int) != 0):=e;subst e';exact PySem.W.truthy_bytes ⋯ ⟨H,I.tok _,q⟩
 | ref p=>
  cases rx;have e':(∃xs,SqL X.K H p xs/\k=!xs.isEmpty)\/(∃xs,SqT X.K H p xs/\k=!xs.isEmpty)\/∃kvs,H p=some (.dK kvs)/\k=!kvs.isEmpty:=e
  rcases e' with⟨xs,hx,e'⟩|⟨xs,hx,e'⟩|⟨kvs,hx,e'⟩
  ·subst e'
   obtain⟨its,r,pl,hz⟩:=I.list hx;have hlen:=r.length;exact wpAny_truthy_list pl.isList (by simp only[D9];lia) ⟨H,I.tok _,by rw[iM r];exact q⟩
  ·subst e'
   obtain⟨its,r,pl,hz⟩:=I.tuple hx;have hlen:=r.length;exact truthy_tuple pl (by simp only[D9];lia) ⟨H,I.tok _,by rw[iM r];exact q⟩
  ·subst e'
   obtain⟨hz,hS,vs,r,m⟩:kvs.length<=Ox/\(p == OS)=false/\∃vs,KV kvs vs/\s.heap.DictOf (bp X.prog X.w) p vs:=I.hok p _ hx
   have hlen:kvs.length=vs.length:=IY r;exact wpAny_truthy_dict hS m ⋯ ⟨H,I.tok _,by rw[nG r];exact q⟩
 | _=>exact(show False from e).elim
theorem rN(ha:PE X a ta)(he:∀whole,isTrue a X.env whole=(do let v <-whole;standAt a.pos;OR [v] (truthy v))):
  PT X a (λσ H Q=>ta σ H λx H'=>∃k,xH X.K x H' k/\Q k H'):=by
 intro pins s σ H Q I h;exact isTrue_plain (thn (ha pins s σ H _ I h) λv s1 ⟨x,H1,I1,r1,q1⟩=>yr pins s1 σ H1 x v Q I1 r1 q1) (he _)
theorem eD{x:V}{us:List Value}(r:Vals [x] us):∃u,us=[u]/\RelV x u:=by
 cases r with
 | cons r1 r2=>cases r2;exact⟨_,rfl,r1⟩
theorem vE{x y:V}{us:List Value}(r:Vals [x,y] us):∃u w',us=[u,w']/\RelV x u/\RelV y w':=by
 cases r with
 | cons r1 r2=>
  cases r2 with
  | cons r3 r4=>cases r4;exact⟨_,_,rfl,r1,r3⟩
theorem rO:cL X (.builtin "abs") (λxs H Q=>∃i,xs=[.int i]/\Q (.int (if i<0 then -i else i)) H):=by
 intro pins s σ H xs us Q I r h;obtain⟨i,rfl,q⟩:=h;obtain⟨u,rfl,t,rfl⟩:=eD r;exact call_abs_int λu tk=>⟨.int (if i<0 then -i else i),H,I.tok _,⟨_,rfl⟩,q⟩
theorem oY (hc:X.calm=true):cL X (.builtin "min") (λxs H Q=>∃i j,xs=[.int i,.int j]/\Q (.int (if j<i then j else i)) H):=by
 intro pins s σ H xs us Q I r h;obtain⟨i,j,rfl,q⟩:=h;obtain⟨u,w',rfl,⟨t,rfl⟩,⟨t',rfl⟩⟩:=vE r;refine min_two_ints (I.ok.hd hc) λh' tk k=>⟨_,H,I.kept k,?_,q⟩
 by_cases hj:j<i
 ·rw[if_pos hj,if_pos hj];exact⟨_,rfl⟩
 ·rw[if_neg hj,if_neg hj];exact⟨_,rfl⟩
theorem oZ:cL X (.type "int") (λxs H Q=>(∃i,xs=[.int i]/\Q (.int i) H)\/∃k,xs=[.bl k]/\Q (.int (if k then 1 else 0)) H):=by
 intro pins s σ H xs us Q I r h;rcases h with⟨i,rfl,q⟩|⟨k,rfl,q⟩
 ·obtain⟨u,rfl,t,rfl⟩:=eD r
  exact call_int_int ⟨.int i,H,I,⟨_,rfl⟩,q⟩
 ·obtain⟨u,rfl,r1⟩:=eD r
  cases r1;exact call_int_bool ⟨.int (if k then 1 else 0),H,I.tok _,⟨_,rfl⟩,q⟩
theorem rP:cL X (.builtin "ord") (λxs H Q=>∃x,xs=[.str x]/\x.length=1/\Q (.int (x.cps.getD 0 0:Nat)) H):=by
 intro pins s σ H xs us Q I r h;obtain⟨x,rfl,hz,q⟩:=h;obtain⟨u,rfl,t,rfl⟩:=eD r;exact ord_of_one hz ⟨.int _,H,I.tok _,⟨_,rfl⟩,q⟩
end
structure ObjM (h:Heap) (x dx C:Addr) (mA:Str->Option Value):Prop where
 obj:h.get? x=some (JU C dx)
 ns:h.Ns1 dx mA
 ne:dx≠x
theorem o7{h:Heap}{dx:Addr}{mA:Str->Option Value}(n:h.Ns1 dx mA):∃od,h.get? dx=some od/\∀name,Km name od=some (mA name):=by
 obtain⟨o,es,ep,ho,hd,hk,_,hm⟩:=n;refine⟨o,ho,λname=>?_⟩;have e:=hm name;unfold nsFind findBy at e;rw[<-Array.find?_toList]at e;unfold Km;rw[hd];dsimp only;split
 ·rename_i y q
  rw[q]at e;exact congrArg some e
 ·rename_i q
  rw[q]at e;have a:es.toList.any (·.refKey)=false:=by
   rw[List.any_eq_false];intro y hy;obtain⟨z,t,hkey⟩:=hk y (Kx.mp hy);simp[N0,hkey]
  have a':¬es.toList.any (·.refKey)=true:=by rw[a];exact Ei
  rw[if_neg a'];exact congrArg some e
theorem ObjM.look{h:Heap}{x dx C:Addr}{mA:Str->Option Value}(I:ObjM h x dx C mA):∃od,PySem.W.InstAt h x (JU C dx) C (some od)/\∀name,Km name od=some (mA name):=
 let⟨od,ho,hl⟩:=o7 I.ns
 ⟨od,⟨I.obj,rfl,rfl,ho⟩,hl⟩
section
variable{prog:Program}{w:World}{A:Around}{E:Value->Shared->Prop}{s:Shared}{K:DU}{x dx C f:Addr}{mA:Str->Option Value}{name:Str}{v:Value}
end
theorem RelO.some_of{v:V}{o:Option Value}(r:RelO (some v) o):∃u,o=some u/\RelV v u:=by
 cases o with
 | none=>exact(show False from r).elim
 | some u=>exact⟨u,rfl,r⟩
section
variable{P:Program}{w:World}{H H':Hp}{h h':Heap}{a C dx:Addr}{fs fs':List (Str×V)}
theorem vF(hok:HOk P w H h)(e:H a=some (.ins C dx fs)):∃mA,ObjM h a dx C mA/\(∀f,RelO (fs.lookup f) (mA f))/\MQ mA (fs.map (·.1))/\fs.length<=1000/\H dx=some (.own a):=by
 obtain⟨d,z,ne,ob,mA,n,r,q⟩:=(show ObjOk P w H h a (.ins C dx fs)from hok a _ e);exact⟨mA,⟨ob,n,ne⟩,r,q,z,d⟩
end
structure Cls (K:DU) (C:Addr):Prop where
 pg:LF K C Str.empty=true
 hd:PySem.W.hasDictIn K C=true
 po:PySem.W.plainOver K C=true
 sa:Mj K (.ref C) "__setattr__" = some (some (.builtin "object.__setattr__"))
theorem Cls.get{K:DU}{C:Addr}(c:Cls K C)(f:Str):LF K C f=true:=c.pg
section
variable{X:Cx}{pins:List (Addr×Obj)}{σ:St}{H:Hp}{s:Shared}{a C dx:Addr}{fs:List (Str×V)}{f:Str}{v:V}{A:Around}{E:Value->Shared->Prop}
end
section
variable{X:Cx}{o e value:Expr}{f:Str}{pos pos' tpos:Pos}{ta tv:TE}
end
section
variable{X:Cx}{pins:List (Addr×Obj)}{σ:St}{H:Hp}{s:Shared}{A:Around}{E:Value->Shared->Prop}{Q:Value->Shared->Prop}{c:Value}{b:Bool}
inductive TyOf (K:DU) (H:Hp):V->Value->Prop where
 | non:TyOf K H .non (.type "NoneType")
 | bl (x:Bool):TyOf K H (.bl x) (.type "bool")
 | int (i:Int):TyOf K H (.int i) (.type "int")
 | str (x:Str):TyOf K H (.str x) (.type "str")
 | flt (x:UInt64):TyOf K H (.flt x) (.type "float")
 | lst {a:Addr}{xs:List V}(e:H a=some (.lst xs)):TyOf K H (.ref a) (.type "list")
 | frz {a:Addr}{o:Obj}{xs:List V}(e:H a=some (.frz o (.lst xs))):TyOf K H (.ref a) (.type "list")
 | tup {a:Addr}{xs:List V}(e:H a=some (.tup xs)):TyOf K H (.ref a) (.type "tuple")
 | dK {a:Addr}{kvs:List (Key×V)}(e:H a=some (.dK kvs)):TyOf K H (.ref a) (.type "dict")
 | dT {a:Addr}{kvs:List (List Key×V)}(e:H a=some (.dT kvs)):TyOf K H (.ref a) (.type "dict")
 | ins {a C dx:Addr}{fs:List (Str×V)}(e:H a=some (.ins C dx fs)) (cl:Cls K C) (ha:Mj K (.ref C) "__class__" = some (some (.builtin "object.__class__")))
   (hn:PySem.W.specialIn K (.builtin "object.__class__") "__get__" = some (some (.builtin "getset_descriptor.__get__"))) (htk:PySem.W.takesIn K (.builtin "object.__class__")=some true)
   (hm:PySem.W.mroIn K C (.type "object")=some true):TyOf K H (.ref a) (.ref C)
theorem o8{x:V}{u t:Value}(I:Inv X pins σ H s)(rx:RelV x u)(ty:TyOf X.K H x t)(e:GR X.K t c=some b)(h:∀tk,Q (.bool b) { s with toks:=tk }):
  wpAny (model X.prog X.w) A (call (.builtin "isinstance") [u,c]) Q E s:=by
 cases ty with
 | non=>cases(show u=EN from rx);exact Fp Jh I.kIn D3 e (λz=>nomatch z) h
 | bl y=>cases(show u=Gk y from rx);exact Fp Lj I.kIn D3 e (λz=>nomatch z) h
 | int i=>obtain⟨t,q⟩:=(show ∃t,u=Hh i t from rx);cases q;exact Fp Jw I.kIn D3 e (λz=>nomatch z) h
 | str y=>obtain⟨t,q⟩:=(show ∃t,u=IJ y t from rx);cases q;exact Fp LG I.kIn D3 e (λz=>nomatch z) h
 | flt y=>obtain⟨t,q⟩:=(show ∃t,u=Nn y t from rx);cases q;exact Fp PySem.W.kitx_float I.kIn D3 e (λz=>nomatch z) h
 | @lst a xs ea=>
  cases(show u=Ep a from rx);obtain⟨_,_,n,_,h1⟩:=(show ObjOk X.prog X.w H s.heap a (.lst xs)from I.hok a _ ea);exact Fp Hw I.kIn ⟨_,h1,rfl⟩ e (λz=>nomatch z) h
 | @frz a ob xs ea=>
  cases(show u=Ep a from rx);obtain⟨_,_,_,n,_,h1⟩:=(show ObjOk X.prog X.w H s.heap a (.frz ob (.lst xs))from I.hok a _ ea);exact Fp Hw I.kIn ⟨_,h1,rfl⟩ e (λz=>nomatch z) h
 | @tup a xs ea=>
  cases(show u=Ep a from rx);obtain⟨_,_,_,p⟩:=(show ObjOk X.prog X.w H s.heap a (.tup xs)from I.hok a _ ea);obtain⟨o,h1,h2,_⟩:=p;exact Fp IK I.kIn ⟨o,h1,h2⟩ e (λz=>nomatch z) h
 | @dK a kvs ea=>
  cases(show u=Ep a from rx);obtain⟨_,_,vs,_,p⟩:=(show ObjOk X.prog X.w H s.heap a (.dK kvs)from I.hok a _ ea);obtain⟨o,es,ep,h1,h2,_⟩:=p;exact Fp Lk I.kIn ⟨o,h1,h2.1⟩ e (λz=>nomatch z) h
 | @dT a kvs ea=>
  cases(show u=Ep a from rx);obtain⟨_,_,xs,_,o,es,ep,h1,h2,_⟩:=(show ObjOk X.prog X.w H s.heap a (.dT kvs)from I.hok a _ ea);exact Fp Lk I.kIn ⟨o,h1,h2.1⟩ e (λz=>nomatch z) h
 | @ins a C dx fs ea cl ha hn htk hm=>
  cases(show u=Ep a from rx);obtain⟨mA,O,_⟩:=vF I.hok ea;obtain⟨od,J,_⟩:=O.look;exact Fp (PySem.W.kitx_own (cl.get _) cl.hd ha hn htk hm) I.kIn J e (λz=>nomatch z) h
end
structure Room (k:Nat) (A:Around):Prop where
 hd:A.handled=none
 dp:A.depth+3*k+5<recursionLimit
 un:A.units+16*k+200<cLine
 gd:A.guards=some []
theorem Room.mono{j k:Nat}{A:Around}(r:Room k A)(h:j<=k):Room j A:=⟨r.hd,by have:=r.dp;lia,by have:=r.un;lia,r.gd⟩
theorem Room.deeper{k:Nat}{A:Around}(r:Room (k+1) A)(env:Env):Room k (A.deeper env):=
 ⟨r.hd,by have:=r.dp;show A.depth+1+3*k+5<_;lia,by have:=r.un;show A.units+3+16*k+200<_;lia,r.gd⟩
theorem Room.depth{k:Nat}{A:Around}(r:Room k A):A.depth<recursionLimit:=by have:=r.dp;lia
theorem Room.units{k:Nat}{A:Around}(r:Room k A):A.units+64<cLine:=by have:=r.un;lia
theorem Room.units0{k:Nat}{A:Around}(r:Room k A):A.units<cLine:=by have:=r.un;lia
def Am:TA:=λ_ H Q=>Q [] H
def nH(ta:TE)(tr:TA):TA:=λσ H Q=>ta σ H λx H1=>tr σ H1 λxs H2=>Q (x::xs) H2
section
variable{X:Cx}{e:Expr}{es:List Expr}{te:TE}{t:TA}{pos:Pos}
theorem yt:PA X [] Am:=λ_ _ _ _ H Q I h=>Hx ⟨[],H,I,.nil,h⟩
theorem vG(ha:PE X e te)(hr:PA X es t)(hs:starEach (e::es) X.env=(false,eval e X.env)::starEach es X.env:=by rfl):PA X (e::es) (nH te t):=by
 intro pos pins s σ H Q I h;rw[hs];show wpAny _ _ (spliced ((false,eval e X.env)::backTo pos (starEach es X.env))) _ _ s
 refine GI (thn (ha pins s σ H _ I h) λu s1 ⟨x,H1,I1,r1,q1⟩=>?_);exact thn (hr pos pins s1 σ H1 _ I1 q1) λus s2 ⟨xs,H2,I2,r2,q2⟩=>⟨x::xs,H2,I2,.cons r1 r2,q2⟩
def Be(t:TA):TE:=λσ H Q=>t σ H λxs H1=>xs.length<=Ox/\∀p,H1 p=none->Q (.ref p) (upd H1 p (.tup xs))
def Bf(t:TA):TE:=λσ H Q=>t σ H λxs H1=>xs.length<=Ox/\∀p,H1 p=none->Q (.ref p) (upd H1 p (.lst xs))
theorem yu{x1}(h:PA X es t):PE X (.Tuple es x1 pos) (Be t):=by
 intro pins s σ H Q I hq;refine wpAny_Tuple_spliced (thn (h pos pins s σ H _ I hq) λus s1 ⟨xs,H1,I1,r,z,q⟩=>⟨by rw[<-r.length];exact z,?_⟩);have hf:H1 s1.heap.objs.size=none:=I1.hok.fresh (DY _);refine⟨.ref s1.heap.objs.size,upd H1 s1.heap.objs.size (.tup xs),I1.laid (t':=s1.toks) (λb u e=>DV _ e) (DY _) ?_,rfl,q _ hf⟩;exact⟨z,us,r,⟨_,Ea _ rfl,rfl,_,rfl⟩⟩
theorem yw(h:PA X es t):PE X (.List es pos) (Bf t):=by
 intro pins s σ H Q I hq;refine wpAny_List_spliced (thn (h pos pins s σ H _ I hq) λus s1 ⟨xs,H1,I1,r,z,q⟩=>⟨by rw[<-r.length];exact z,?_⟩);have hf:H1 s1.heap.objs.size=none:=I1.hok.fresh (DY _);refine⟨.ref s1.heap.objs.size,upd H1 s1.heap.objs.size (.lst xs),I1.laid (t':=s1.toks) (λb u e=>DV _ e) (DY _) ?_,rfl,q _ hf⟩;exact⟨z,us,0,r,Ea _ rfl⟩
end
noncomputable abbrev Sp:=List V->Hp->VK->XK->Prop
noncomputable abbrev CXT:=List Env->Hp->Shared->XK->Value->Shared->Prop
structure Env0 (P:Program) (w:World) (K:DU) (mg:Str->Option Value) (base:Heap) (A:Around) (outer:List Env) (s:Shared) (H:Hp):Prop where
 frames:A.frames=some outer
 mod:Mod K mg base
 bs:∀b o,base.get? b=some o->s.heap.get? b=some o/\H b=none
 bsz:base.objs.size<=s.heap.objs.size
 funs:s.heap.FunFrames base outer
 frf:∀b∈frs outer,H b=none
 hok:HOk P w H s.heap
 bare:AllBare s.gens
def CE(outer:List Env)(P:Program)(w:World)(H:Hp)(s:Shared)(Q:VK)(u:Value)(s':Shared):Prop:=
 ∃v H',s'.os=s.os/\AllBare s'.gens/\Un (frs outer) [] H H' s.heap s'.heap/\HOk P w H' s'.heap/\RelV v u/\Q v H'
def CR(CX:CXT)(outer:List Env)(P:Program)(w:World)(H:Hp)(s:Shared)(Q:VK)(E:XK)(r:Result)(s':Shared):Prop:=
 match r with
 | .ok (.ret u)=>CE outer P w H s Q u s'
 | .ok _=>False
 | .error e=>CX outer H s E e s'
structure FnOk (P:Program) (w:World) (K:DU) (mg:Str->Option Value) (base:Heap) (CX:CXT) (k:Nat) (f:Addr) (fd:FuncData) (ps:List Str) (sp:Sp):Prop where
 len:∀vs H Q E,sp vs H Q E->vs.length=ps.length
 run:∀(A:Around) (outer:List Env) (s:Shared) (H:Hp) (args:Args) (us:List Value) (vs:List V) (Q:VK) (E:XK),Room k A->Env0 P w K mg base A outer s H->BindsTo s fd args (ps.zip us)->Vals vs us->sp vs H Q E->
  codeAny (model P w) A (.call (.ref f) args) (CR CX outer P w H s Q E) s
theorem FnOk.imp{P:Program}{w:World}{K:DU}{mg:Str->Option Value}{base:Heap}{CX:CXT}{k:Nat}{f:Addr}{fd:FuncData}{ps:List Str}{sp sp':Sp}(F:FnOk P w K mg base CX k f fd ps sp)
  (h:∀vs H Q E,sp' vs H Q E->sp vs H Q E):FnOk P w K mg base CX k f fd ps sp':=
 ⟨λvs H Q E q=>F.len vs H Q E (h _ _ _ _ q),λA outer s H args us vs Q E hr he hb hv hs=>F.run A outer s H args us vs Q E hr he hb hv (h _ _ _ _ hs)⟩
section
variable{X:Cx}{pins:List (Addr×Obj)}{σ:St}{H:Hp}{s s':Shared}
theorem Inv.env0(I:Inv X pins σ H s):Env0 X.prog X.w X.K X.mg X.base X.A X.stack s H:=
 ⟨I.ok.frames,I.ok.mod,I.bs,ET I.ok.bsz I.sz,I.stack,I.stkFree,I.hok,I.bare⟩
theorem Inv.after{Q:VK}{u:Value}(I:Inv X pins σ H s)(h:CE X.stack X.prog X.w H s Q u s'):EP X pins σ Q u s':=by
 obtain⟨v,H',os,bare,un,hok,r,q⟩:=h;obtain⟨hh,g,d,t,os'⟩:=s';obtain rfl:os'=s.os:=os;exact⟨v,H',I.call (h':=hh) (g':=g) (d':=d) (t':=t) (ch:=[]) un hok bare (λb z=>absurd z (by simp)),r,q⟩
end
def o9(sp:Sp)(dvs:List V)(E:XK)(t:TA):TE:=λσ H Q=>t σ H λvs H1=>sp (vs++dvs) H1 Q E
def Binds(K:DU)(fd:FuncData)(ps:List Str)(ds:List Value):Prop:=
 ∀(s:Shared) (us:List Value),K.In s.heap->(us++ds).length=ps.length->BindsTo s fd ⟨us,[]⟩ (ps.zip (us++ds))
theorem Binds.all{K:DU}{fd:FuncData}{ps:List Str}(h:∀us:List Value,us.length=ps.length->bindArgs fd ⟨us,[]⟩=pure (ps.zip us)):Binds K fd ps []:=λs us _ hl=>by
 rw[E1]at hl ⊢;exact .of_eq (h us hl)
def iN(CX:CXT)(X:Cx)(E:XK):Prop:=∀(pins:List (Addr×Obj)) (σ:St) (H:Hp) (s:Shared) (e:Value) (s':Shared),Inv X pins σ H s->CX X.stack H s E e s'->X.xe e s'
section
variable{X:Cx}{CX:CXT}{k:Nat}{f C:Addr}{fd:FuncData}{ps:List Str}{sp:Sp}{dvs:List V}{ds:List Value}{E:XK}{x m:Str}{p pos apos:Pos}{e o:Expr}{es:List Expr}{ta:TE}{t:TA}
theorem uv{pins:List (Addr×Obj)}{σ:St}{H:Hp}{s:Shared}{Q:VK}{us:List Value}{vs:List V}(F:FnOk X.prog X.w X.K X.mg X.base CX k f fd ps sp)(hr:Room k X.A)(hb:Binds X.K fd ps ds)(hd:Vals dvs ds)(hx:iN CX X E)
  (I:Inv X pins σ H s) (r:Vals vs us) (h:sp (vs++dvs) H Q E):wpAny (model X.prog X.w) X.A (call (.ref f) us) (EP X pins σ Q) X.xe s:=by
 have r2:Vals (vs++dvs) (us++ds):=r.append hd;have hl:(us++ds).length=ps.length:=by rw[<-r2.length];exact F.len _ _ _ _ h
 refine wpAny_call (codeAny_mono (F.run X.A X.stack s H ⟨us,[]⟩ (us++ds) (vs++dvs) Q E hr I.env0 (hb s us I.kIn hl) r2 h) λr s' hq=>?_);cases r with
 | error e=>exact hx pins σ H s e s' I hq
 | ok fl=>
  cases fl with
  | ret u=>exact I.after hq
  | next=>exact FW hq
  | brk=>exact FW hq
  | cont=>exact FW hq
theorem vH(F:FnOk X.prog X.w X.K X.mg X.base CX k f fd ps sp)(hr:Room k X.A)(hg:Gl X x)(hm:X.mg x=some (.ref f))(hk:Gu X.K (.ref f)=true)(hb:Binds X.K fd ps ds)(hd:Vals dvs ds)(hx:iN CX X E)
  (ha:PA X (e::es) t) (hdb:(x == ("__debug__" : Str))=false:=by decide) (he:starEach (e::es) X.env=(false,eval e X.env)::starEach es X.env:=by rfl) (hpl:(backTo pos (starEach es X.env)).any (·.1)=false:=by rfl) :
  PE X (.Call (.Name x p) (e::es) [] pos) (o9 sp dvs E t):=by
 intro pins s σ H Q I h;refine O3 (oN I hg hm ?_ hdb);refine KW (h₀:=X.base) I.ok.mod.kin hk (thn (ha pos pins s σ H _ I h) λus s1 ⟨vs,H1,I1,r,q⟩=>⟨I1.kIn,?_⟩) he hpl;exact uv F hr hb hd hx I1 r q
end
section
variable{X:Cx}{CX:CXT}{k:Nat}{f C:Addr}{fd:FuncData}{ps ks:List Str}{sp:Sp}{E:XK}{x m:Str}{p pos apos kpos:Pos}{e o:Expr}{es:List Expr}{kws:List Keyword}{te ta:TE}{t tk:TA}{nm:Option Str}
variable{g:List Value->List Value->List Value}{gV:List V->List V->List V}
end
structure FnScope (N P:List Str) (sc:Scope):Prop where
 kind:sc.kind=.function
 co:sc.isCoroutine=false
 gen:sc.isGenerator=false
 nd:N.Nodup
 pre:N.take P.length=P
 par:∀x∈P,sc.names.lookup x=some .local\/sc.names.lookup x=some .cell
 nofree:∀y∈sc.names,y.2≠.free
theorem jX{kindOf:Str->Option NameKind}{x:Str}:∀{binds:List (Str×Value)}{m:Str->Option Value},(∀v,(x,v)∉binds)->bindL kindOf binds m x=m x
 | [],_,_=>rfl
 | (n,v)::r,m,h=>by
  unfold bindL;rw[jX λw hw=>h w (En _ hw)];split
  ·have:x≠n:=by rintro rfl;exact h v Es
   simp[this]
  ·rfl
theorem jY{kindOf:Str->Option NameKind}{x:Str}:∀{binds:List (Str×Value)}{m:Str->Option Value},(∀v,(x,v)∉binds)->bindC kindOf binds m x=m x
 | [],_,_=>rfl
 | (n,v)::r,m,h=>by
  unfold bindC;rw[jY λw hw=>h w (En _ hw)];split
  ·rfl
  ·have:x≠n:=by rintro rfl;exact h v Es
   simp[this]
theorem jZ{kindOf:Str->Option NameKind}{x:Str}{v:Value}:∀{P:List Str}{vs:List Value}{i:Nat}{m:Str->Option Value},P.Nodup->P[i]? = some x->vs[i]? = some v->kindOf x=some .local->
  bindL kindOf (P.zip vs) m x=some v
 | [],_,_,_,_,h,_,_=>by simp at h
 | _::_,[],_,_,_,_,h,_=>by simp at h
 | p::P,w::vs,0,m,nd,h1,h2,hk=>by
  simp at h1 h2;subst h1;subst h2;show bindL kindOf ((p,w)::P.zip vs) m p=_
  unfold bindL;rw[jX λv hv=>(Fc.mp nd).1 (JV hv).1,if_pos hk];simp
 | p::P,w::vs,i+1,m,nd,h1,h2,hk=>by
  show bindL kindOf ((p,w)::P.zip vs) m x=_
  unfold bindL;exact jZ (i:=i) (Fc.mp nd).2 (by simpa using h1) (by simpa using h2) hk
theorem j4{kindOf:Str->Option NameKind}{x:Str}{v:Value}:∀{P:List Str}{vs:List Value}{i:Nat}{m:Str->Option Value},P.Nodup->P[i]? = some x->vs[i]? = some v->kindOf x≠some .local->
  bindC kindOf (P.zip vs) m x=some v
 | [],_,_,_,_,h,_,_=>by simp at h
 | _::_,[],_,_,_,_,h,_=>by simp at h
 | p::P,w::vs,0,m,nd,h1,h2,hk=>by
  simp at h1 h2;subst h1;subst h2;show bindC kindOf ((p,w)::P.zip vs) m p=_
  unfold bindC;rw[jY λv hv=>(Fc.mp nd).1 (JV hv).1,if_neg hk];simp
 | p::P,w::vs,i+1,m,nd,h1,h2,hk=>by
  show bindC kindOf ((p,w)::P.zip vs) m x=_
  unfold bindC;exact j4 (i:=i) (Fc.mp nd).2 (by simpa using h1) (by simpa using h2) hk
noncomputable def start(N:List Str)(vs:List V):St:=vs.map some++Ef (N.length - vs.length) none
noncomputable def uw(CX:CXT)(P:Program)(w:World)(K:DU)(mg:Str->Option Value)(base:Heap)(N:List Str)(qual:Str)(scope:Scope)(f:Addr)(cd:Value)(A:Around)(outer:List Env)(s:Shared)(H:Hp)(E:XK):Cx where
 prog:=P
 w:=w
 K:=K
 mg:=mg
 base:=base
 A:=A.deeper (envOfC qual scope s.heap.objs.size f cd)
 N:=N
 s₀:=s
 H₀:=H
 env:=envOfC qual scope s.heap.objs.size f cd
 outer:=outer
 stack:=envOfC qual scope s.heap.objs.size f cd::outer
 ex:=[]
 calm:=true
 fn:=λ_=>true
 pn:=[]
 xe:=λe s'=>wpAny (model P w) (A.deeper (envOfC qual scope s.heap.objs.size f cd)) (leaving (envOfC qual scope s.heap.objs.size f cd) e) (λ_ s''=>CX outer H s E e s'') (λe' s''=>CX outer H s E e' s'') s'
theorem l6{sc:Scope}{n:Nat}{x:Str}(h:sc.names.lookup x=some .cell):∃c,(cellsFrom n sc.names []).lookup x=some c:=by
 have q:=Ka sc.names n [] (.inl h);exact Gv.mp q
theorem pb{CX:CXT}{P:Program}{w:World}{K:DU}{mg:Str->Option Value}{base:Heap}{N ps:List Str}{qual:Str}{scope:Scope}{f:Addr}{cd:Value}{A:Around}{outer:List Env}{s s1:Shared}{H:Hp}{E:XK}{us:List Value}{vs:List V}
  (S:FnScope N ps scope) (hd:A.handled=none) (e0:Env0 P w K mg base A outer s H) (hl:vs.length=ps.length) (r:Vals vs us)
  (x:InCallC s s.heap.objs.size (bindL (envOfC qual scope s.heap.objs.size f cd).kindOf (ps.zip us) λ_=>none) (cellsFrom (s.heap.objs.size+1) scope.names []) (bindC (envOfC qual scope s.heap.objs.size f cd).kindOf (ps.zip us) λ_=>none) s1) :
  Inv (uw CX P w K mg base N qual scope f cd A outer s H E) [] (start N vs) H s1:=by
 have hpl:ps.length<=N.length:=by have:=congrArg G7 S.pre;rw[Ee]at this;lia
 obtain⟨h1,tk,rfl,hk⟩:=x.done;have noA:∀b:Addr,b∉(uw CX P w K mg base N qual scope f cd A outer s H E).ex:=λb z=>absurd (show b∈([]:List Addr)from z) (by simp)
 refine⟨⟨e0.mod,S.kind,rfl,rfl,DY _,λy z c h1 h2=>?_,λy hy=>?_,λy c _ h=>?_,λ_=>hd,Around.frames_deeper e0.frames,.inr ⟨rfl,rfl⟩,λb z=>absurd z (noA b),e0.bs,e0.bsz,λb _ _=>noA b,λb z=>absurd z (noA b),e0.funs,e0.frf⟩,
  rfl,e0.bare,Un.kept hk,⟨_,x.toInCall.ns,λi y v h1 h2 h3=>?_⟩,λy c h=>⟨_,x.cell y c h⟩,e0.hok.fresh (DY _),λy c h=>?_,λp hp=>absurd (show p∈([]:List (Addr×Obj))from hp) (by simp),e0.hok.kept hk,?_⟩
 ·exact name_of_addr x.apart (F2 h1) (F2 h2)
 ·have hy:scope.names.lookup y=some .cell\/scope.names.lookup y=some .free:=hy
  rcases hy with hy|hy
  ·exact l6 hy
  ·exact absurd rfl (S.nofree _ (F2 hy))
 ·exact Fv (x.above y c (F2 h))
 ·have hi:i<vs.length:=by
   unfold start at h2;by_cases hi:i<vs.length
   ·exact hi
   ·rw[EE (by simpa using hi)]at h2
    rw[F1]at h2;split at h2<;>cases h2
  have ha:vs[i]? = some v:=by
   unfold start at h2;rw[Ek (by simpa using hi),DX]at h2;cases e:vs[i]? with
   | none=>rw[e]at h2;cases h2
   | some a=>rw[e]at h2;cases h2;rfl
  obtain⟨u,hu,rv⟩:=r.get ha;have hp:ps[i]? = some y:=by
   rw[<-S.pre,Hi ⋯];exact h1
  have ndP:ps.Nodup:=by rw[<-S.pre];exact S.nd.sublist (Ll _ _)
  refine⟨u,rv,?_⟩;rcases S.par y (Ew hp)with k|k
  ·exact .inl ⟨k,jZ ndP hp hu k⟩
  ·obtain⟨c,e⟩:=l6 (n:=s.heap.objs.size+1) k
   refine .inr ⟨.inl k,c,e,?_⟩;have q:=x.cell y c e;rw[j4 ndP hp hu (by show scope.names.lookup y≠_;rw[k];decide)]at q;exact q
 ·exact e0.hok.fresh (Fv (x.above y c (F2 h)))
 ·unfold start
  show _=N.length
  rw[D8,DT,Fz];lia
theorem Bg{CX:CXT}{P:Program}{w:World}{K:DU}{mg:Str->Option Value}{base:Heap}{k:Nat}{f:Addr}{name qual:Str}{params:Arguments}{body:List Stmt}{scope:Scope}{dV kV doc pm cdv ct oc:Value}{an od:Option Addr}
  {osl:Array (Option Value)}{N ps:List Str}{sp:Sp}(lk:K.lookup f=some ⟨oc,od,.func (F8 name qual params body scope dV kV doc pm an cdv ct),osl⟩) (hcd:ID K cdv qual=true) (S:FnScope N ps scope)
  (len:∀vs H Q E,sp vs H Q E->vs.length=ps.length)
  (hbody:∀(A:Around) (outer:List Env) (s:Shared) (H:Hp) (vs:List V) (Q:VK) (E:XK),Room k (A.deeper (envOfC qual scope s.heap.objs.size f cdv))->sp vs H Q E->
   ∃t,PSs (uw CX P w K mg base N qual scope f cdv A outer s H E) body t/\t { nx:=λ_ H'=>Q .non H',rt:=Q } (start N vs) H) :
  FnOk P w K mg base CX (k+1) f (F8 name qual params body scope dV kV doc pm an cdv ct) ps sp:=by
 refine⟨len,λA outer s H args us vs Q E hr e0 hb r hsp=>?_⟩;have hl:=len _ _ _ _ hsp;have KX:K.In s.heap:=e0.mod.kin.keeps λb o e=>(e0.bs b o e).1
 have lim:s.heap.NoLimit:=e0.mod.nolimit.keeps λb o e=>(e0.bs b o e).1
 have hkind:∀y∈ps.zip us,scope.names.lookup y.1=some .local\/(scope.names.lookup y.1=some .cell/\((cellsFrom (s.heap.objs.size+1) scope.names []).lookup y.1).isSome=true):=λ⟨n,v⟩ hy=>by
  rcases S.par n (JV hy).1 with q|q
  ·exact .inl q
  ·exact .inr ⟨q,Ka _ _ _ (.inl q)⟩
 refine codeAny_call_function hr.depth (KX _ _ lk) rfl S.co S.gen rfl (PySem.W.codeRec_of KX hcd) (hb _ _ _ _ ?_);refine wpAny_newFunctionEnv_cells S.kind hkind λenv he s1 x=>?_
 subst he;refine⟨lim.keeps x.toInCall.keep,codeAny_func ?_⟩;obtain⟨t,ht,hq⟩:=hbody A outer s H vs Q E (hr.deeper _) hsp;have I:Inv (uw CX P w K mg base N qual scope f cdv A outer s H E) [] (start N vs) H s1:=pb S hr.hd e0 hl r x;refine OD (ht [] s1 (start N vs) H _ I hq) (λfl s' hs=>?_) λe s' hs=>hs
 have fin:∀{σ':St}{H':Hp}{v:V}{u:Value},Inv (uw CX P w K mg base N qual scope f cdv A outer s H E) [] σ' H' s'->RelV v u->Q v H'->CE outer P w H s Q u s':=
  λ{σ' H' v u} J rv q=>⟨v,H',J.os,J.bare,J.base,J.hok,rv,q⟩
 cases fl with
 | ret u=>
  obtain⟨v,σ',H',J,rv,q⟩:=hs;exact fin J rv q
 | next=>
  obtain⟨σ',H',J,q⟩:=hs;exact fin (v:=V.non) (u:=EN) J rfl q
 | brk=>
  obtain⟨_,_,_,q⟩:=hs;exact FW q
 | cont=>
  obtain⟨_,_,_,q⟩:=hs;exact FW q
section
variable{X:Cx}{x:Str}{p pos:Pos}{e:Expr}{es:List Expr}{t:TA}{id T:String}{r:List V->Hp->VK->Prop}
def tCB(r:List V->Hp->VK->Prop)(t:TA):TE:=λσ H Q=>t σ H λvs H1=>r vs H1 Q
theorem rQ (hc:cL X (.builtin id) r) (hg:Gl X x) (hm:X.mg x=none) (hv:bootBuiltins x=some (.builtin id)) (ha:PA X (e::es) t) (hn:x≠"__name__":=by decide) (hdb:(x == ("__debug__" : Str))=false:=by decide)
  (he:starEach (e::es) X.env=(false,eval e X.env)::starEach es X.env:=by rfl) (hpl:(backTo pos (starEach es X.env)).any (·.1)=false:=by rfl):PE X (.Call (.Name x p) (e::es) [] pos) (tCB r t):=by
 intro pins s σ H Q I h;refine O3 (de I hg hm hv ?_ hn hdb);exact LY (thn (ha pos pins s σ H _ I h) λus s1 ⟨vs,H1,I1,r1,q1⟩=>hc pins s1 σ H1 vs us Q I1 r1 q1) he hpl
theorem pe (hc:cL X (.type T) r) (hg:Gl X x) (hm:X.mg x=none) (hv:bootBuiltins x=some (.type T)) (ha:PA X (e::es) t) (hn:x≠"__name__":=by decide) (hdb:(x == ("__debug__" : Str))=false:=by decide)
  (he:starEach (e::es) X.env=(false,eval e X.env)::starEach es X.env:=by rfl) (hpl:(backTo pos (starEach es X.env)).any (·.1)=false:=by rfl):PE X (.Call (.Name x p) (e::es) [] pos) (tCB r t):=by
 intro pins s σ H Q I h;refine O3 (de I hg hm hv ?_ hn hdb);exact EY (thn (ha pos pins s σ H _ I h) λus s1 ⟨vs,H1,I1,r1,q1⟩=>hc pins s1 σ H1 vs us Q I1 r1 q1) he hpl
end
end L2
open L2.SqL renaming of→Od
open L2.SqT renaming of→Oe
open L2.V renaming int→Of,bl→Og,str→Oh,ref→Ou
open PySem PySem.Spec PyProof.Rows L2
variable{Q:Value->Shared->Prop}{ms:List Int}{items:Array Value}{l sl a tp i1 i2 l1 l2 S:Addr}{n j t' c i tk iy b m B ep by':Nat}{vl vu u:Value}{its:List Value}{xs ys vs us:List V}{σ:L2.St}{pins:List (Addr×Obj)}{h:Heap}{q P:Program}{x qual z:Str}{X:Cx}{H1 H' H0:Hp}{o:HO}{v y:V}{fp ps ch qs:List Addr}{elt cnd iter tg e:Expr}{tc:TT}{g:TG}{wi:TI}{pos pos' py spos:Pos}{s':Shared}{to ti ta tb tl:TE}{scope:Scope}{zs cs row r:List Nat}{D:Ends}{lk:Bool}
namespace HT
open PySem PyProof.Rows
noncomputable def cM:List Int->List Int->Bool
 | [],[]=>false
 | [],_::_=>true
 | _::_,[]=>false
 | x::xs,y::ys=>if x=y then cM xs ys else decide (x<y)
theorem ck(x y:Int)(xs ys:List Int):cM (x::xs) (y::ys)=if x=y then cM xs ys else decide (x<y):=rfl
theorem eU:cM [] []=false:=rfl
theorem iD(y:Int)(ys:List Int):cM [] (y::ys)=true:=rfl
theorem iE(x:Int)(xs:List Int):cM (x::xs) []=false:=rfl
theorem l7(A:Around)(s:Shared)(a:Int)(t:Tok)(c:Int)(u:Tok):∃e,NG A s (.int a t) (.int c u) e/\(e=true↔a=c):=
 ⟨(a == c),KY a t c u,by simp⟩
theorem rR(A:Around)(s:Shared)(a:Int)(t:Tok)(c:Int)(u:Tok)(prog:Program)(w:World)(E:Value->Shared->Prop)(Q:Value->Shared->Prop)(h:Q (.bool (decide (a<c))) s):
  wpAny (model prog w) A (richCompare .Lt (.int a t) (.int c u)) Q E s:=
 (NK h:wpAny (model prog w) A (OC .Lt (.int a t) (.int c u)) Q E s)
section
open PySem.SeqAt
open PySem.AutoSeq1 (wpAny_loadPart')
open PySem.MeetsSeq PySem.MeetsSeq2 PySem.MeetsSeq3
theorem jf(l b:Addr)(items items2:Array Value)(n n2:Nat)(dd dd2:Option Addr)(sl sl2:Array (Option Value))(ns ms:List Int)(hi:OI items.toList ns)(hj:OI items2.toList ms):
  Meets (Builtin.«tuple.__lt__» ⟨[.ref l,.ref b],[]⟩)
   (λ_ R s=>s.heap.get? l=some { cls:=.type "tuple",dict:=dd,data:=.seq items n,slots:=sl }/\s.heap.get? b=some { cls:=.type "tuple",dict:=dd2,data:=.seq items2 n2,slots:=sl2 }/\
    R (.ok (.ret (.bool (cM ns ms)))) s):=
 .of_wp λprog w A R s h=>by
  obtain⟨hp,g,d,tk,os⟩:=s;obtain⟨hl,hb,h⟩:=h;have f2:=Hj;have z1:items.size=ns.length:=by rw[<-hi.length];simp
  have z2:items2.size=ms.length:=by rw[<-hj.length];simp
  wp_walk using OP hl,OP hb,wpAny_forIn_list _ (λrest b s'=>b.1=none/\s'=⟨hp,g,d,tk,os⟩/\∃(vs ws:List Value) (ns' ms':List Int),rest=vs.zip ws/\
   OI vs ns'/\OI ws ms'/\ns'.length+items2.size=ms'.length+items.size/\R (.ok (.ret (.bool (cM ns' ms')))) ⟨hp,g,d,tk,os⟩) _
  case turn=>
   rintro⟨y,x⟩ rest b s' ⟨hb',rfl,vs,ws,ns',ms',hz,hvi,hwi,hlen,hR⟩;cases hvi with
   | nil=>rw[Ji]at hz;cases hz
   | cons a t hvi'=>
    cases hwi with
    | nil=>rw[IL]at hz;cases hz
    | cons c u hwi'=>
     rw[FN]at hz;injection hz with hyx hrest
     injection hyx with hy hx
     subst hy hx;rw[ck]at hR;simp only[Ej]at hlen;obtain⟨e,he,hiff⟩:=l7 A.in1 ⟨hp,g,d,tk,os⟩ a t c u;refine Ov (he prog w _ _ ?_);cases e with
     | true=>
      rw[if_pos (hiff.mp rfl)]at hR
      wp_walk
      exact⟨rfl,rfl,_,_,_,_,hrest,hvi',hwi',by lia,hR⟩
     | false=>
      rw[if_neg (λq=>absurd (hiff.mpr q) Ei)]at hR;have hri:=rR A.in1 ⟨hp,g,d,tk,os⟩ a t c u prog w
      wp_walk using hri
      exact⟨_,rfl,by simpa using hR⟩
  case fin=>
   rintro⟨b1,b2⟩ s' ⟨hb',rfl,vs,ws,ns',ms',hz,hvi,hwi,hlen,hR⟩;simp only at hb';subst hb';have hv:cM ns' ms'=decide (items.size<items2.size):=by
    cases hvi with
    | nil=>
     cases hwi with
     | nil=>
      simp only[E2]at hlen;rw[eU];exact(decide_eq_false ⋯).symm
     | cons c u hw=>
      simp only[E2,Ej]at hlen;rw[iD];exact(decide_eq_true ⋯).symm
    | cons a t hv=>
     cases hwi with
     | nil=>
      simp only[E2,Ej]at hlen;rw[iE];exact(decide_eq_false ⋯).symm
     | cons c u hw=>
      rw[FN]at hz;cases hz
   rw[hv]at hR
   wp_walk
   exact⟨_,rfl,by simpa [Ij]using hR⟩
  case h=>
   exact⟨rfl,rfl,items.toList,items2.toList,ns,ms,rfl,hi,hj,by lia,h⟩
end
section
variable{prog:Program}{w:World}{A:Around}{E:Value->Shared->Prop}{s:Shared}
theorem nI{b:Addr}{items2:Array Value}{ns:List Int}(hl:IsTup s.heap l items)(hb:IsTup s.heap b items2)(hi:OI items.toList ns)(hj:OI items2.toList ms)
  (hu:A.units<cLine) (h:Q (.bool (cM ns ms)) s):wpAny (model prog w) A (OC .Lt (.ref l) (.ref b)) Q E s:=by
 obtain⟨⟨cls,dd,data,sl⟩,ho,hc,n,hd⟩:=id hl;obtain⟨⟨cls2,dd2,data2,sl2⟩,ho2,hc2,n2,hd2⟩:=id hb;simp only at hc hd hc2 hd2;subst hc hd hc2 hd2;exact richCompare_meets_room (op:=.Lt) ⟨_,ho,rfl⟩ ⟨_,ho2,rfl⟩ PySem.F.slot_tuple_lt PySem.F.entry_tuple_lt (PySem.F.args_tuple_lt_2 _ _) (jf l b items items2 n n2 dd dd2 sl sl2 ns ms hi hj)
  ⟨ho,ho2,show Gk (cM ns ms)≠Ky/\Q (.bool (cM ns ms)) s from⟨(λx=>nomatch x),h⟩⟩ hu
noncomputable def sIx(n d:Nat):Option Int->Nat
 | none=>d
 | some v=>if v<0 then(v+(n:Int)).toNat else min v.toNat n
theorem l8(n d:Nat):sIx n d none=d:=rfl
theorem dm(n d k:Nat):sIx n d (some (k:Int))=min k n:=by
 show(if(k:Int)<0 then((k:Int)+(n:Int)).toNat else min (k:Int).toNat n)=min k n
 rw[if_neg ⋯,E3]
theorem yx(n d:Nat)(hd:d<=n)(o:Option Int):sIx n d o<=n:=by
 cases o with
 | none=>exact hd
 | some v=>
  show(if v<0 then(v+(n:Int)).toNat else min v.toNat n)<=n
  by_cases hv:v<0
  ·rw[if_pos hv];lia
  ·rw[if_neg hv];exact LH _ _
theorem ph(v:Int)(n d:Nat):(if v<0 then max (v+(n:Int)) 0 else min v (n:Int))=((sIx n d (some v):Nat):Int):=by
 show(if v<0 then max (v+(n:Int)) 0 else min v (n:Int))=(((if v<0 then(v+(n:Int)).toNat else min v.toNat n):Nat):Int)
 by_cases hv:v<0
 ·simp only[if_pos hv];lia
 ·simp only[if_neg hv];lia
theorem nJ(lo hi:Option Int)(n:Nat):G9 lo hi 1 (n:Int)=(((sIx n 0 lo:Nat):Int),((sIx n n hi:Nat):Int)):=by
 have h1:¬((1:Int)<0):=by lia
 unfold G9;simp only[h1,if_false];refine Prod.ext ?_ ?_
 ·cases lo with
  | none=>rfl
  | some v=>exact ph v n 0
 ·cases hi with
  | none=>rfl
  | some v=>exact ph v n n
theorem nK(i j:Nat):Gm (i:Int) (j:Int) 1=j - i:=by
 unfold Gm;have h1:(1:Int) > 0:=by lia
 simp only[h1,if_true,M6];split<;>lia
theorem iO{v:Value}{o:Option Int}{Q:Option Int->Shared->Prop}(p:IsPart v o)(h:Q o s):wpAny (model prog w) A (Mk v) Q E s:=by
 cases p with
 | none=>exact slicePart_none h
 | int i t=>exact slicePart_int h
theorem dz{lo hi:Option Int}{Q:Int×Int×Nat->Shared->Prop}(hs:s.heap.IsSliceOf sl vl vu .none)(pl:IsPart vl lo)(pu:IsPart vu hi)
  (h:Q (((sIx n 0 lo:Nat):Int),1,sIx n n hi - sIx n 0 lo) s):wpAny (model prog w) A (Ja (.ref sl) (pure (n:Int))) Q E s:=by
 obtain⟨os,hos,hcs,hds⟩:=id hs;unfold Ja MN;refine Ov (Ov (OA hos hds (x:=vl) rfl (Ov (OA hos hds (x:=vu) rfl (Ov (OA hos hds (x:=.none) rfl (Ow ?_)))))));refine Ov (slicePart_none ?_);show wpAny _ _ (if((1:Int) == 0)=true then _ else _) _ _ s
 rw[if_neg (by decide)];refine Ov (iO pl (Ov (iO pu (Ov (Ow ?_)))));show wpAny _ _ (match G9 lo hi 1 (n:Int)with|(lo,hi)=>pure (lo,(1:Int),Gm lo hi 1)) _ _ s
 rw[nJ lo hi n];show wpAny _ _ (pure (((sIx n 0 lo:Nat):Int),(1:Int),Gm ((sIx n 0 lo:Nat):Int) ((sIx n n hi:Nat):Int) 1)) _ _ s
 rw[nK];exact Ow h
theorem rS(xs:Array Value)(i k:Nat):((DZ k).filterMap λ(m:Nat)=>xs[((i:Int)+(m:Int)*1).toNat]?).toArray=((xs.toList.drop i).take k).toArray:=by
 have e:(λ(m:Nat)=>xs[((i:Int)+(m:Int)*1).toNat]?)=λm=>xs[i+m]?:=by
  funext m
  have:((i:Int)+(m:Int)*1).toNat=i+m:=by lia
  rw[this]
 rw[e];have:=pick_run xs i k;rw[List.filterMap_map]at this;have e2:((λx=>xs[x]?)∘λx=>i+x)=λm=>xs[i+m]?:=rfl
 rw[e2]at this;rw[this]
theorem fM{t:Addr}{lo hi:Option Int}(ht:IsTup s.heap t items)(hs:s.heap.IsSliceOf sl vl vu .none)(pl:IsPart vl lo)(pu:IsPart vu hi)
  (hw:¬(sIx items.size 0 lo=0/\sIx items.size items.size hi=items.size))
  (h:Q (.ref s.heap.objs.size) { s with heap:=s.heap.push { cls:=.type "tuple",data:=.seq ((items.toList.drop (sIx items.size 0 lo)).take (sIx items.size items.size hi - sIx items.size 0 lo)).toArray } })
  (hsz:items.size<=Ox):wpAny (model prog w) A (getItem (.ref t) (.ref sl)) Q E s:=by
 have htake:sizeOk (.seq ((items.toList.drop (sIx items.size 0 lo)).take (sIx items.size items.size hi - sIx items.size 0 lo)).toArray):=by
  show((items.toList.drop (sIx items.size 0 lo)).take (sIx items.size items.size hi - sIx items.size 0 lo)).toArray.size<=Ox
  rw[D9,Ee,EO,E8];lia
 have hj:sIx items.size items.size hi<=items.size:=yx _ _ (DY _) hi;obtain⟨os,hos,hcs,hds⟩:=id hs;have hTs:s.TypeIs (.ref sl) "slice":=⟨os,hos,hcs⟩;unfold getItem
 try with_reducible refine Oy ?_
 first|refine Ov (Ow ?_)|skip
 refine Ov (wpAny_sequenceKey ht.typeIs (by decide) ?_);refine Ov (OE (name:=Ey "__getitem__") ht.typeIs Fg
  (OG Fg ht.typeIs entry_tuple_getitem ?_ (args_tuple_getitem _ _)))
 show wpAny _ _ (Jb (.ref t) >>= _) _ _ s
 refine Ov (tupleItemsOf_ ht ?_);refine Ov (O4 hTs ?_);rw[if_pos (by decide)];refine Ov (dz hs pl pu ?_);have hno:¬((((sIx items.size 0 lo:Nat):Int) == 0 && (1:Int) == 1 && (sIx items.size items.size hi - sIx items.size 0 lo) == items.size)=true):=by
  intro q;rw[EH,EH]at q;have q1:((sIx items.size 0 lo:Nat):Int)=0:=eq_of_beq q.1.1;have q2:sIx items.size items.size hi - sIx items.size 0 lo=items.size:=eq_of_beq q.2;exact hw ⟨by lia,by lia⟩
 show wpAny _ _ (if(((sIx items.size 0 lo:Nat):Int) == 0 && (1:Int) == 1 && (sIx items.size items.size hi - sIx items.size 0 lo) == items.size)=true then _ else _) _ _ s
 rw[if_neg hno,rS]
 first
  | exact Ov (m:=Gw _) (OB (Ow ⟨_,rfl,Ow h⟩) htake)
  | exact Ov (m:=Gw _) (OB (Ov (Ow (Ow ⟨_,rfl,Ow h⟩))) htake)
  | exact Ov (Ov (m:=Gw _) (OB (Ow (Ow ⟨_,rfl,Ow h⟩)) htake))
  | exact Ov (Ov (m:=Gw _) (OB (Ow ⟨_,rfl,Ow h⟩) htake))
end
end HT
namespace L2
open PySem PySem.Spec PyProof.Rows
noncomputable abbrev TO:=St->Hp->(Option Int->Hp->Prop)->Prop
def PO(X:Cx)(e:Option Expr)(t:TO):Prop:=
 ∀(pins:List (Addr×Obj)) (s:Shared) (σ:St) (H:Hp) (Q:Option Int->Hp->Prop),Inv X pins σ H s->t σ H Q->
  wpAny (model X.prog X.w) X.A (evalPart e X.env) (λu s'=>∃o H',Inv X pins σ H' s'/\IsPart u o/\Q o H') X.xe s
noncomputable def kZ:TO:=λ_ H Q=>Q none H
noncomputable def vI(t:TE):TO:=λσ H Q=>t σ H λx H1=>∃i,x=.int i/\Q (some i) H1
theorem cB{ns:List Int}:∀{us:List Value},Vals (ns.map Of) us->OI us ns:=by
 induction ns with
 | nil=>intro us r;rw[Ik]at r;cases r;exact .nil
 | cons n ns ih=>
  intro us r;rw[Ez]at r;cases r with
  | cons r1 r2=>
   obtain⟨t,e⟩:=r1;subst e;exact .cons n t (ih r2)
section
variable{X:Cx}{e:Expr}{te:TE}{lo hi:Option Expr}{tl th:TO}{pos p2:Pos}
theorem vJ:PO X none kZ:=by
 intro pins s σ H Q I h;rw[evalPart_none];exact Ow ⟨none,H,I,.none,h⟩
theorem vK(h:PE X e te):PO X (some e) (vI te):=by
 intro pins s σ H Q I hw;rw[evalPart_some];refine thn (h pins s σ H _ I hw) λu s1 ⟨x,H1,I1,r1,q1⟩=>?_
 obtain⟨i,rfl,q⟩:=q1;obtain⟨t,rfl⟩:=r1;exact⟨some i,H1,I1,.int i t,q⟩
def SlR(X:Cx)(r:V->Option Int->Option Int->Hp->VK->Prop):Prop:=
 ∀(pins:List (Addr×Obj)) (s:Shared) (σ:St) (H:Hp) (x:V) (v vl vu:Value) (lo hi:Option Int) (sl:Addr) (Q:VK),Inv X pins σ H s->RelV x v->s.heap.IsSliceOf sl vl vu .none->IsPart vl lo->IsPart vu hi->r x lo hi H Q->
  ∃T id,typeLookup (.type T) "__getitem__" = pure (some (.builtin id))/\s.TypeIs v T/\wpAny (model X.prog X.w) X.A (getItem v (.ref sl)) (EP X pins σ Q) X.xe s
def tSl(r:V->Option Int->Option Int->Hp->VK->Prop)(te:TE)(tl th:TO):TE:=λσ H Q=>te σ H λx H1=>tl σ H1 λl H2=>th σ H2 λu H3=>r x l u H3 Q
theorem rT{r:V->Option Int->Option Int->Hp->VK->Prop}(hr:SlR X r)(he:PE X e te)(hl:PO X lo tl)(hu:PO X hi th):PE X (.Subscript e (.Slice lo hi none p2) pos) (tSl r te tl th):=by
 intro pins s σ H Q I h;refine Subscript_ (thn (he pins s σ H _ I h) λv s1 ⟨x,H1,I1,r1,q1⟩=>?_);refine wpAny_Slice (thn (hl pins s1 σ H1 _ I1 q1) λvl s2 ⟨l,H2,I2,pl,q2⟩=>thn (hu pins s2 σ H2 _ I2 q2) λvu s3 ⟨u,H3,I3,pu,q3⟩=>?_);rw[evalPart_none];refine Ow ?_;have I4:Inv X pins σ H3 { s3 with heap:=s3.heap.push { cls:=.type "slice",data:=.fields #[vl,vu,.none] } }:=I3.kept (t':=s3.toks) λb ob q=>DV _ q
 obtain⟨T,id,hT,ht,hg⟩:=hr pins { s3 with heap:=s3.heap.push { cls:=.type "slice",data:=.fields #[vl,vu,.none] } } σ H3 x v vl vu l u s3.heap.objs.size Q I4 r1 (IM ..) pl pu q3;show wpAny (model X.prog X.w) X.A (subscriptTail e (.Slice lo hi none p2) v (.ref s3.heap.objs.size)) (EP X pins σ Q) X.xe { s3 with heap:=s3.heap.push { cls:=.type "slice",data:=.fields #[vl,vu,.none] } }
 exact tail_any (ops:=[.ref s3.heap.objs.size,v]) ht hT hg (by with_unfolding_all rfl)
noncomputable def iA(xs:List V)(lo hi:Option Int):List V:=(xs.drop (HT.sIx xs.length 0 lo)).take (HT.sIx xs.length xs.length hi - HT.sIx xs.length 0 lo)
theorem gH(xs:List V)(lo hi:Option Int):(iA xs lo hi).length<=xs.length:=by
 unfold iA;rw[Ee,EO];lia
def Dh(K:DU):V->Option Int->Option Int->Hp->VK->Prop:=λx lo hi H Q=>∃a xs,x=.ref a/\SqT K H a xs/\
 ¬(HT.sIx xs.length 0 lo=0/\HT.sIx xs.length xs.length hi=xs.length)/\∀p,H p=none->Q (.ref p) (upd H p (.tup (iA xs lo hi)))
theorem yy:SlR X (Dh X.K):=by
 intro pins s σ H x v vl vu lo hi sl Q I rx hs pl pu h;obtain⟨a,xs,rfl,hx,hw,q⟩:=h;cases rx;obtain⟨its,r,ht,hz⟩:=I.tuple hx;have hlen:its.toArray.size=xs.length:=by rw[D9];exact r.length.symm
 refine⟨"tuple",_,Fg.lookup,ht.typeIs,?_⟩;refine HT.fM ht hs pl pu (by rw[hlen];exact hw) ?_ (by rw[hlen];exact hz);rw[hlen];refine⟨.ref s.heap.objs.size,_,I.laid (t':=s.toks) (o:=.tup (iA xs lo hi)) (λb ob q=>DV _ q) (DY _) ?_,rfl,q _ (I.hok.fresh (DY _))⟩;exact⟨ET (gH xs lo hi) hz,_,(r.drop (HT.sIx xs.length 0 lo)).take (HT.sIx xs.length xs.length hi - HT.sIx xs.length 0 lo),Ms _ _⟩
end
noncomputable def ixN(n:Nat)(i:Int):Option Nat:=if 0<=i then(if i<n then some i.toNat else none)else if -(n:Int)<=i then some (i+n).toNat else none
noncomputable def atI{α:Type}(xs:List α)(i:Int):Option α:=(ixN xs.length i).bind λj=>xs[j]?
theorem pj{i:Int}(h:ixN n i=some j):seqIndex? i n=some j/\j<n/\-(n:Int)<=i/\i<n:=by
 unfold ixN at h;by_cases h0:0<=i
 ·rw[if_pos h0]at h
  by_cases h1:i<n
  ·rw[if_pos h1]at h
   have e:i.toNat=j:=Er h;exact⟨by rw[seqIndex_of h0 h1,e],by lia,by lia,h1⟩
  ·rw[if_neg h1]at h;cases h
 ·rw[if_neg h0]at h
  by_cases h1:-(n:Int)<=i
  ·rw[if_pos h1]at h
   have e:(i+n).toNat=j:=Er h;exact⟨by rw[seqIndex_neg ⋯ h1,e],by lia,h1,by lia⟩
  ·rw[if_neg h1]at h;cases h
theorem k4{α:Type}{xs:List α}{i:Int}{v:α}(h:atI xs i=some v):∃j,seqIndex? i xs.length=some j/\xs[j]? = some v/\j<xs.length/\-(xs.length:Int)<=i/\i<xs.length:=by
 unfold atI at h;cases e:ixN xs.length i with
 | none=>rw[e]at h;cases h
 | some j=>
  rw[e]at h;obtain⟨h1,h2,h3,h4⟩:=pj e;exact⟨j,h1,h,h2,h3,h4⟩
theorem bg{α:Type}{xs:List α}{v:α}(h:xs[j]? = some v):atI xs (j:Int)=some v:=by
 have hj:j<xs.length:=(D6.mp h).1;have e:ixN xs.length (j:Int)=some j:=by
  unfold ixN;rw[if_pos ⋯,if_pos ⋯];simp
 unfold atI;rw[e];exact h
def pk(b:Expr):Prop:=∀o i,subscripted b false o i=operate [o,i] (getItem o i)
def IxR(X:Cx)(r:R2):Prop:=
 ∀(value slice:Expr) (pins:List (Addr×Obj)) (s:Shared) (σ:St) (H:Hp) (x y:V) (v u:Value) (Q:VK),Inv X pins σ H s->RelV x v->RelV y u->r x y H Q->
  subscripted slice false v u=operate [v,u] (getItem v u)->wpAny (model X.prog X.w) X.A (subscriptTail value slice v u) (EP X pins σ Q) X.xe s
def MtR(X:Cx)(id:String)(r:V->List V->Hp->VK->Prop):Prop:=
 ∀(pins:List (Addr×Obj)) (s:Shared) (σ:St) (H:Hp) (x:V) (xs:List V) (v:Value) (us:List Value) (Q:VK),Inv X pins σ H s->RelV x v->Vals xs us->r x xs H Q->
  wpAny (model X.prog X.w) X.A (call (.builtin id) (v::us)) (EP X pins σ Q) X.xe s
section
variable{X:Cx}{a b:Expr}{ta tb:TE}{pos:Pos}
theorem IxR.or{r r':R2}(h:IxR X r)(h':IxR X r'):IxR X (λx y H Q=>r x y H Q\/r' x y H Q):=by
 intro value slice pins s σ H x y v u Q I rx ry q hs;rcases q with q|q
 ·exact h value slice pins s σ H x y v u Q I rx ry q hs
 ·exact h' value slice pins s σ H x y v u Q I rx ry q hs
theorem Bh{r:R2}(hr:IxR X r)(ha:PE X a ta)(hb:PE X b tb)(hs:pk b):PE X (.Subscript a b pos) (tOp r ta tb):=by
 intro pins s σ H Q I h;exact Subscript_ (A4 ha hb I h λv u s2 x y H2 I2 rx ry q=>hr a b pins s2 σ H2 x y v u Q I2 rx ry q (hs _ _))
def yz(K:DU):R2:=λx y H Q=>∃p xs i v,x=.ref p/\y=.int i/\SqL K H p xs/\atI xs i=some v/\Q v H
def yA(K:DU):R2:=λx y H Q=>∃p xs i v,x=.ref p/\y=.int i/\SqT K H p xs/\atI xs i=some v/\Q v H
def Bi:R2:=λx y H Q=>∃z i c,x=.str z/\y=.int i/\z.length<=Ox/\atI z.cps.toList i=some c/\Q (.str ⟨#[c]⟩) H
theorem ix_list:IxR X (yz X.K):=by
 intro value slice pins s σ H x y v u Q I rx ry h hs;obtain⟨p,xs,i,z,rfl,rfl,hq,he,q⟩:=h;cases rx;obtain⟨t,rfl⟩:=ry;obtain⟨its,r,pl,hz⟩:=I.list hq;obtain⟨j,h1,h2,h3,h4,h5⟩:=k4 he;obtain⟨w,ew,rw'⟩:=r.get h2;have hl:=r.length;have hn:=ee;have fin:EP X pins σ Q w s:=⟨z,H,I,rw',q⟩;by_cases h0:0<=i
 ·have hj:i.toNat=j:=by
   rw[seqIndex_of h0 h5]at h1;exact Er h1
  exact item_listR pl.isList h0 ⋯ (by rw[hj];simpa using ew) fin hs
 ·have hj:(i+(its.toArray.size:Int)).toNat=j:=by
   rw[seqIndex_neg ⋯ h4]at h1;rw[D9,<-hl];exact Er h1
  exact subscriptTail_builtinR (x:=w) pl.isList.typeIs slot_list_getitem.lookup
   (wpAny_getItem_list_neg (Q:=λr s'=>r=w/\EP X pins σ Q r s') pl.isList ⋯ (by rw[D9]<;>lia) ⋯ (by rw[hj];simpa using ew) ⟨rfl,fin⟩) hs
theorem ix_tup:IxR X (yA X.K):=by
 intro value slice pins s σ H x y v u Q I rx ry h hs;obtain⟨p,xs,i,z,rfl,rfl,hq,he,q⟩:=h;cases rx;obtain⟨t,rfl⟩:=ry;obtain⟨its,r,pl,hz⟩:=I.tuple hq;obtain⟨j,h1,h2,h3,h4,h5⟩:=k4 he;obtain⟨w,ew,rw'⟩:=r.get h2;have hl:=r.length;have hn:=ee;have fin:EP X pins σ Q w s:=⟨z,H,I,rw',q⟩;exact subscriptTail_builtinR (x:=w) pl.typeIs slot_tuple_getitem.lookup
  (getItem_tuple (j:=j) (Q:=λr s'=>r=w/\EP X pins σ Q r s') pl ⋯ ⋯ (by rw[D9,<-hl];exact h1) (by simpa using ew) ⟨rfl,fin⟩) hs
theorem ux:IxR X Bi:=by
 intro value slice pins s σ H x y v u Q I rx ry h hs;obtain⟨z,i,c,rfl,rfl,hz,he,q⟩:=h;obtain⟨t,rfl⟩:=rx;obtain⟨t',rfl⟩:=ry;obtain⟨j,h1,h2,h3,h4,h5⟩:=k4 he;have hl:z.cps.toList.length=z.length:=by simp[Jo]
 rw[hl]at h1 h4 h5;have hn:=ee;exact tail_any (typeIs_str s z t) slot_str_getitem.lookup (getItem_str (c:=c) (by
  have e1:decide (i < -(2 ^ 63:Int))=false:=decide_eq_false ⋯;have e2:decide (i>=2 ^ 63)=false:=decide_eq_false ⋯;rw[e1,e2,Mu]) (by rw[h1];simpa using h2) ⟨.str ⟨#[c]⟩,H,I.tok _,⟨_,rfl⟩,q⟩) hs
def rIx(K:DU):R2:=λx y H Q=>yz K x y H Q\/yA K x y H Q\/Bi x y H Q
theorem yB:IxR X (rIx X.K):=ix_list.or (ix_tup.or ux)
theorem nL (its:List Value) (n j:Nat) (u:Value):E6 (·.setIfInBounds j u) { cls:=.type "list",data:=.seq its.toArray n }={ cls:=.type "list",data:=.seq (its.set j u).toArray n }:=by
 simp[E6]
theorem Inv.lst{pins:List (Addr×Obj)}{σ:St}{H:Hp}{s:Shared}{p:Addr}{xs:List V}(I:Inv X pins σ H s)(h:H p=some (.lst xs)):
  ∃(its:List Value) (n:Nat),Vals xs its/\s.heap.get? p=some { cls:=.type "list",data:=.seq its.toArray n }/\xs.length<=Ox:=by
 obtain⟨z,its,n,r,e⟩:=I.hok p _ h;exact⟨its,n,r,e,z⟩
theorem Inv.lstUpd{H:Hp}{s:Shared}{p:Addr}{its':List Value}{n':Nat}{f:Obj->Obj}(I:Inv X pins σ H s)(h:H p=some (.lst xs))
  (ho:s.heap.get? p=some { cls:=.type "list",data:=.seq its.toArray n }) (hf:f { cls:=.type "list",data:=.seq its.toArray n }={ cls:=.type "list",data:=.seq its'.toArray n' }) (r:Vals ys its') (hz:ys.length<=Ox) (t:Nat) :
  Inv X pins σ (upd H p (.lst ys)) { s with heap:=s.heap.update p f,toks:=t }:=by
 have e:(s.heap.update p f).get? p=some { cls:=.type "list",data:=.seq its'.toArray n' }:=by
  rw[Ga f ho (by rw[hf]<;>rfl),hf]
 refine I.write (x:=p) (e:=p) (by rw[h];trivial) (.inl rfl) (λb u hb q=>(Fx _ _ (E5 hb)).trans q) ⟨_,e⟩ ?_;exact⟨hz,its',n',r,e⟩
def nM:V->V->V->Hp->(Hp->Prop)->Prop:=λo i v H Q=>∃p xs k j,o=.ref p/\i=.int k/\H p=some (.lst xs)/\ixN xs.length k=some j/\Q (upd H p (.lst (xs.set j v)))
theorem jg:AX X nM:=by
 intro pins s σ H o i v ov iv u Q I ro ri rv h;obtain⟨p,xs,k,j,rfl,rfl,hp,hj,q⟩:=h;cases ro;obtain⟨t,rfl⟩:=ri;obtain⟨its,n,r,ho,hz⟩:=I.lst hp;obtain⟨h1,h2,h3,h4⟩:=pj hj;have hl:=r.length;have hn:=ee;have I':Inv X pins σ (upd H p (.lst (xs.set j v))) { s with heap:=s.heap.update p (E6 (·.setIfInBounds j u)) }:=
  I.lstUpd hp ho (nL its n j u) (r.set rv j) (by rw[JW];exact hz) s.toks
 by_cases h0:0<=k
 ·have hk:k.toNat=j:=by
   rw[seqIndex_of h0 h4]at h1;exact Er h1
  exact PySem.W.ki_setAt ho h0 ⋯ (by rw[D9,<-hl];exact h4) (by rw[hk];exact⟨_,I',q⟩)
 ·have hk:(k+(its.toArray.size:Int)).toNat=j:=by
   rw[seqIndex_neg ⋯ h3]at h1;rw[D9,<-hl];exact Er h1
  exact PySem.W.ki_setBack ho ⋯ (by rw[D9,<-hl];exact h3) ⋯ (by rw[hk];exact⟨_,I',q⟩)
theorem j5(lo hi:Option Int)(n:Nat):(O0 lo hi none n).1=((HT.sIx n 0 lo:Nat):Int)/\(O0 lo hi none n).2.1=((HT.sIx n n hi:Nat):Int)/\(O0 lo hi none n).2.2=1:=by
 refine⟨?_,?_,rfl⟩
 ·cases lo with
  | none=>simp[O0,HT.sIx]
  | some i=>
   simp only[O0,HT.sIx,Jx,show(1:Int) > 0 by decide,if_true];by_cases h:i<0
   ·simp only[h,if_true]<;>lia
   ·simp only[h,if_false]<;>lia
 ·cases hi with
  | none=>simp[O0,HT.sIx]
  | some i=>
   simp only[O0,HT.sIx,Jx,show(1:Int) > 0 by decide,if_true];by_cases h:i<0
   ·simp only[h,if_true]<;>lia
   ·simp only[h,if_false]<;>lia
theorem jh(its:List Value)(lo hi:Option Int):slicePick its.toArray lo hi none=((its.drop (HT.sIx its.length 0 lo)).take (HT.sIx its.length its.length hi - HT.sIx its.length 0 lo)).toArray:=by
 obtain⟨h1,h2,h3⟩:=j5 lo hi its.toArray.size;unfold slicePick;rw[h1,h2,h3];simp only[sliceRange_one,pick_run,D9]<;>rfl
def An(K:DU):V->Option Int->Option Int->Hp->VK->Prop:=λx lo hi H Q=>∃a xs,x=.ref a/\SqL K H a xs/\∀p,H p=none->Q (.ref p) (upd H p (.lst (iA xs lo hi)))
theorem vL:SlR X (An X.K):=by
 intro pins s σ H x v vl vu lo hi sl Q I rx hs pl pu h;obtain⟨a,xs,rfl,hx,q⟩:=h;cases rx;obtain⟨its,r,ht,hz⟩:=I.list hx;have hlen:=r.length;refine⟨"list",_,slot_list_getitem.lookup,ht.isList.typeIs,?_⟩;refine wpAny_getItem_list_slice ht.isList hs pl pu .none (by simp) ?_ (by rw[D9]<;>lia);rw[jh,<-hlen];refine⟨.ref s.heap.objs.size,_,I.laid (t':=s.toks) (o:=.lst (iA xs lo hi)) (λb ob q=>DV _ q) (DY _) ?_,rfl,q _ (I.hok.fresh (DY _))⟩;exact⟨ET (gH xs lo hi) hz,_,0,(r.drop (HT.sIx xs.length 0 lo)).take (HT.sIx xs.length xs.length hi - HT.sIx xs.length 0 lo),Ea _ rfl⟩
theorem j6:cL X (.builtin "len") (λxs H Q=>∃p ys,xs=[.ref p]/\(SqL X.K H p ys\/SqT X.K H p ys)/\Q (.int ys.length) H):=by
 intro pins s σ H xs us Q I r h;obtain⟨p,ys,rfl,hq,q⟩:=h;obtain⟨u,rfl,rx⟩:=eD r;cases rx;have hn:=ee;rcases hq with hq|hq
 ·obtain⟨its,r',pl,hz⟩:=I.list hq
  have hlen:=r'.length;exact Calls.call_len_list pl.isList (by simp only[D9]<;>lia) ⟨.int ys.length,H,I.tok _,⟨s.toks+1,by rw[D9,hlen]⟩,q⟩
 ·obtain⟨its,r',pl,hz⟩:=I.tuple hq
  have hlen:=r'.length;exact len_tuple pl (by simp only[D9]<;>lia) ⟨.int ys.length,H,I.tok _,⟨s.toks+1,by rw[D9,hlen]⟩,q⟩
theorem j7:cL X (.builtin "len") (λxs H Q=>∃z,xs=[.str z]/\z.length<=Ox/\Q (.int z.length) H):=by
 intro pins s σ H xs us Q I r h;obtain⟨z,rfl,hz,q⟩:=h;obtain⟨u,rfl,t,rfl⟩:=eD r;have hn:=ee;exact len_str ⋯ ⟨.int z.length,H,I.tok _,⟨_,rfl⟩,q⟩
theorem j8:cL X (.type "list") (λxs H Q=>∃p ys,xs=[.ref p]/\(SqL X.K H p ys\/SqT X.K H p ys)/\∀l,H l=none->Q (.ref l) (upd H l (.lst ys))):=by
 intro pins s σ H xs us Q I r h;obtain⟨p,ys,rfl,hq,q⟩:=h;obtain⟨u,rfl,rx⟩:=eD r;cases rx;have fin:∀(its:List Value),Vals ys its->ys.length<=Ox->∀(h':Heap) (c':Nat),(∀b o',s.heap.get? b=some o'->h'.get? b=some o')->
   h'.get? s.heap.objs.size=some { cls:=.type "list",dict:=none,data:=.seq its.toArray c',slots:=#[] }->EP X pins σ Q (.ref s.heap.objs.size) { s with heap:=h' }:=λits r' hz h' c' kp e=>
  ⟨.ref s.heap.objs.size,_,I.laid (t':=s.toks) kp (DY _) (show ObjOk X.prog X.w _ h' _ (.lst ys)from⟨hz,its,c',r',e⟩),rfl,q _ (I.hok.fresh (DY _))⟩
 rcases hq with hq|hq
 ·obtain⟨its,r',pl,hz⟩:=I.list hq
  have hlen:=r'.length;obtain⟨o,ho,hc,n,hd⟩:=pl.isList;exact call_list_seq p (.inl rfl) ho hc hd (λh' c' kp e=>fin its r' hz h' c' kp e) (by simp only[D9]<;>lia)
 ·obtain⟨its,r',pl,hz⟩:=I.tuple hq
  have hlen:=r'.length;obtain⟨o,ho,hc,n,hd⟩:=pl;exact call_list_seq p (.inr rfl) ho hc hd (λh' c' kp e=>fin its r' hz h' c' kp e) (by simp only[D9]<;>lia)
theorem ji:cL X (.type "tuple") (λxs H Q=>∃p ys,xs=[.ref p]/\((SqL X.K H p ys/\∀l,H l=none->Q (.ref l) (upd H l (.tup ys)))\/(SqT X.K H p ys/\Q (.ref p) H))):=by
 intro pins s σ H xs us Q I r h;obtain⟨p,ys,rfl,h⟩:=h;obtain⟨u,rfl,rx⟩:=eD r;cases rx;rcases h with⟨hq,q⟩|⟨hq,q⟩
 ·obtain⟨its,r',pl,hz⟩:=I.list hq
  have hlen:=r'.length;refine call_tuple_list pl.isList (λh' kp=>?_) (by simp only[D9]<;>lia);have I1:Inv X pins σ H { s with heap:=h' }:=I.kept (t':=s.toks) kp;have I2:Inv X pins σ (upd H h'.objs.size (.tup ys)) { s with heap:=h'.push { cls:=.type "tuple",data:=.seq its.toArray } }:=
   I1.laid (t':=s.toks) (λb o e=>DV _ e) (DY _) (show ObjOk X.prog X.w _ _ _ (.tup ys)from⟨hz,its,r',Ms _ _⟩)
  exact⟨.ref h'.objs.size,_,I2,rfl,q _ (I1.hok.fresh (DY _))⟩
 ·obtain⟨its,r',pl,hz⟩:=I.tuple hq
  exact call_tuple_same pl ⟨.ref p,H,I,rfl,q⟩
def tyV(K:DU)(T:String)(x:V)(H:Hp):Prop:=match x with
 | .str _=>T = "str"
 | .int _=>T = "int"
 | .ref p=>(T = "list"/\∃xs,SqL K H p xs)\/(T = "tuple"/\∃o,K.lookup p=some o/\o.cls=.type "tuple"/\o.dict=none)\/
   (T = "dict"/\((∃kvs,H p=some (.dK kvs))\/∃kvs,H p=some (.dT kvs)))\/(T = "set"/\∃S n,H p=some (.set S n))
 | _=>False
theorem uy{H:Hp}{s:Shared}{T:String}{x:V}{v:Value}(I:Inv X pins σ H s)(r:RelV x v)(ty:tyV X.K T x H):
  s.TypeIs v T/\∀a,v=.ref a->∃ob,s.heap.get? a=some ob/\ob.dict=none:=by
 cases x with
 | str z=>
  obtain⟨t,rfl⟩:=r;cases(show T = "str" from ty);exact⟨typeIs_str s z t,λ_ e=>nomatch e⟩
 | int i=>
  obtain⟨t,rfl⟩:=r;cases(show T = "int" from ty);exact⟨typeIs_int s i t,λ_ e=>nomatch e⟩
 | ref p=>
  cases r;rcases ty with⟨rfl,xs,hq⟩|⟨rfl,o,hk,hc,hd⟩|⟨rfl,hk⟩|⟨rfl,S,n,hk⟩
  ·obtain⟨its,_,pl,_⟩:=I.list hq
   refine⟨pl.isList.typeIs,λa e=>?_⟩;cases e;obtain⟨o,n,e,c,hd,_⟩:=pl;exact⟨o,e,hd⟩
  ·refine⟨⟨o,I.kIn p o hk,hc⟩,λa e=>?_⟩
   cases e;exact⟨o,I.kIn _ o hk,hd⟩
  ·have z:∃o,s.heap.get? p=some o/\o.ExactDict:=by
    rcases hk with⟨kvs,hk⟩|⟨kvs,hk⟩
    ·obtain⟨_,_,_,_,o,_,_,e,ex,_⟩:=I.hok p _ hk
     exact⟨o,e,ex⟩
    ·obtain⟨_,_,_,_,o,_,_,e,ex,_⟩:=I.hok p _ hk
     exact⟨o,e,ex⟩
   obtain⟨o,e,ex⟩:=z;refine⟨⟨o,e,ex.1⟩,λa e2=>?_⟩;cases e2;exact⟨o,e,ex.2.1⟩
  ·obtain⟨o,_,_,_,e,ex,_⟩:=I.hok p _ hk
   refine⟨⟨o,e,ex.1⟩,λa e2=>?_⟩;cases e2;exact⟨o,e,ex.2.1⟩
 | _=>exact FW ty
def Ao(K:DU)(T:String)(r:V->List V->Hp->VK->Prop)(to:TE):TE:=λσ H Q=>to σ H λx H1=>tyV K T x H1/\r x [] H1 Q
def tBM(K:DU)(T:String)(r:V->List V->Hp->VK->Prop)(to:TE)(t:TA):TE:=λσ H Q=>to σ H λx H1=>tyV K T x H1/\t σ H1 λxs H2=>r x xs H2 Q
variable{o e:Expr}{es:List Expr}{to:TE}{t:TA}{name:Str}{apos cpos:Pos}{T id:String}{r:V->List V->Hp->VK->Prop}
theorem uz (pa:PlainAttrs T) (slot:Slot T name id) (hty:typeOf (.builtin id)=pure (.type "method_descriptor")) (hm:MtR X id r) (ho:PE X o to)
  (hbase:attributeBase o name X.env (eval o X.env)=eval o X.env:=by rfl) (hline:(apos.endLine == cpos.line)=true:=by rfl):PE X (.Call (.Attribute o name apos) [] [] cpos) (Ao X.K T r to):=by
 intro pins s σ H Q I h;refine wpAny_Call_method0_late hbase hline (thn (ho pins s σ H _ I h) λv s1 ⟨x,H1,I1,r1,ty,q1⟩=>?_);obtain⟨h1,h2⟩:=uy I1 r1 ty;exact⟨T,id,pa,slot,hty,h1,h2,F6 rfl (KO (hm pins s1 σ H1 x [] v [] Q I1 r1 .nil q1))⟩
theorem yC (pa:PlainAttrs T) (slot:Slot T name id) (hty:typeOf (.builtin id)=pure (.type "method_descriptor")) (hm:MtR X id r) (ho:PE X o to) (ha:PA X (e::es) t)
  (hbase:attributeBase o name X.env (eval o X.env)=eval o X.env:=by rfl)
  (hfew:((backTo cpos (starEach (e::es) X.env)).all (λx=>!x.1) && (backToKw cpos (keywordEach [] X.env)).all (λx=>x.1.isSome)
   && decide ((e::es).length+([]:List Keyword).length+(if([]:List Keyword).isEmpty then 0 else 1)<30))=true:=by rfl)
  (hline:(apos.endLine == cpos.line)=true:=by rfl) (hs:starEach (e::es) X.env=(false,eval e X.env)::starEach es X.env:=by rfl) (hplain:(backTo cpos (starEach es X.env)).any (·.1)=false:=by rfl) :
  PE X (.Call (.Attribute o name apos) (e::es) [] cpos) (tBM X.K T r to t):=by
 intro pins s σ H Q I h;refine wpAny_Call_method_late hbase hfew hline rfl (thn (ho pins s σ H _ I h) λv s1 ⟨x,H1,I1,r1,ty,q1⟩=>?_);obtain⟨h1,h2⟩:=uy I1 r1 ty;refine⟨T,id,pa,slot,hty,h1,h2,?_⟩;have hA:=ha cpos pins s1 σ H1 _ I1 q1;rw[hs]at hA ⊢;refine F6 (by show(false || (backTo cpos (starEach es X.env)).any (·.1))=false;rw[hplain]<;>rfl) (Il ?_);exact thn hA λus s2 ⟨vs,H2,I2,r2,q2⟩=>hm pins s2 σ H2 x vs v us Q I2 r1 r2 q2
end
def MtM(X:Cx)(id:String)(r:V->List V->Hp->VK->Prop):Prop:=
 ∀(pins:List (Addr×Obj)) (s:Shared) (σ:St) (H:Hp) (x:V) (xs:List V) (v:Value) (us:List Value) (Q:VK),Inv X pins σ H s->RelV x v->Vals xs us->r x xs H Q->
  wpAny (model X.prog X.w) X.A (call (.builtin id) (v::us)) (EP X pins σ Q) X.xe s
theorem Vals.one:∀{x:V}{us:List Value},Vals [x] us->∃u,us=[u]/\RelV x u
 | _,_,.cons r .nil=>⟨_,rfl,r⟩
theorem Vals.zero:∀{us:List Value},Vals [] us->us=[]
 | _,.nil=>rfl
theorem Vals.dropLast{xs:List V}{us:List Value}(h:Vals xs us):Vals xs.dropLast us.dropLast:=by
 induction h with
 | nil=>exact .nil
 | cons r t ih=>
  cases t with
  | nil=>exact .nil
  | cons q t'=>exact .cons r ih
theorem Vals.reverse{xs:List V}{us:List Value}(h:Vals xs us):Vals xs.reverse us.reverse:=by
 induction h with
 | nil=>exact .nil
 | cons r t ih=>rw[Jj,Jj];exact Vals.append ih (.cons r .nil)
theorem Vals.rep{xs:List V}{us:List Value}(h:Vals xs us):∀k:Nat,Vals (Ef k xs).flatten (Ef k us).flatten
 | 0=>.nil
 | k+1=>by
  rw[Fe,Fe,GO,GO];exact Vals.append h (Vals.rep h k)
theorem nN{α:Type}(l:List α):l.eraseIdx (l.length - 1)=l.dropLast:=by
 induction l with
 | nil=>rfl
 | cons a r ih=>
  cases r with
  | nil=>rfl
  | cons b r=>
   have e:(a::b::r).length - 1=((b::r).length - 1)+1:=by
    have h1:(a::b::r).length=r.length+2:=rfl;have h2:(b::r).length=r.length+1:=rfl;lia
   rw[e,List.eraseIdx_cons_succ,ih]
   all_goals rfl
theorem j9(its:List Value):∀(k:Nat) (acc:List Value),
  LZ (λx1 x2=>x1++x2) acc.toArray (Ef k its.toArray)=(acc++(Ef k its).flatten).toArray
 | 0,acc=>by simp
 | k+1,acc=>by
  have e:acc.toArray++its.toArray=(acc++its).toArray:=by simp
  have e2:(acc++its)++(Ef k its).flatten=acc++(Ef (k+1) its).flatten:=by
   rw[Fe,GO,EA]
  rw[<-e2,<-j9 its k (acc++its),<-e,Fe,L0]
section
variable{X:Cx}{pins:List (Addr×Obj)}{σ:St}{H:Hp}{s:Shared}{l b:Addr}{xs ys zs:List V}
theorem Inv.lset{its':List Value}{f:Array Value->Array Value}(I:Inv X pins σ H s)(hH:H l=some (.lst xs))
  (e:s.heap.get? l=some { cls:=.type "list",data:=.seq its.toArray n }) (hf:f its.toArray=its'.toArray) (hv:Vals ys its') (hz:ys.length<=Ox) :
  Inv X pins σ (upd H l (.lst ys)) { s with heap:=s.heap.update l (E6 f),toks:=t' }:=by
 have q:=N1 e f;rw[hf]at q;refine I.write (x:=l) (e:=l) (by rw[hH];exact trivial) (.inl rfl) (λb' u hb hu=>(Fx s.heap (E6 f) (E5 hb)).trans hu) ⟨_,q⟩ ?_;exact⟨hz,its',_,hv,q⟩
theorem Inv.lnew(I:Inv X pins σ H s)(hv:Vals ys its)(hz:ys.length<=Ox):
  Inv X pins σ (upd H s.heap.objs.size (.lst ys)) { s with heap:=s.heap.push { cls:=.type "list",data:=.seq its.toArray },toks:=t' }:=
 I.laid (λ_ _ q=>DV _ q) (DY _) ⟨hz,its,0,hv,Ea _ rfl⟩
theorem Inv.fresh(I:Inv X pins σ H s):H s.heap.objs.size=none:=I.hok.fresh (DY _)
theorem Inv.lstM (I:Inv X pins σ H s) (hH:H l=some (.lst xs)):xs.length<=Ox/\∃(its:List Value) (n:Nat),Vals xs its/\xs.length=its.length/\s.heap.get? l=some { cls:=.type "list",data:=.seq its.toArray n }:=by
 obtain⟨z,its,n,r,e⟩:=I.hok l _ hH;exact⟨z,its,n,r,r.length,e⟩
theorem eV(h:n<=Ox):FA n=false:=by
 unfold FA;exact decide_eq_false ⋯
end
section
variable{X:Cx}
def k7:V->List V->Hp->VK->Prop:=λx vs H Q=>∃l xs y,x=.ref l/\vs=[y]/\H l=some (.lst xs)/\xs.length<Ox/\Q .non (upd H l (.lst (xs++[y])))
theorem pq:MtM X "list.append" k7:=by
 intro pins s σ H x vs v us Q I rx rv h;obtain⟨l,xs,y,rfl,rfl,hH,hz,q⟩:=h;cases rx;obtain⟨u,rfl,ru⟩:=rv.one;obtain⟨z,its,n,r,hl,e⟩:=I.lstM hH;refine O6 F.slot_list_append ⟨_,e,rfl⟩ F.entry_list_append (F.args_list_append_2 _ _) (PySem.list_append l its.toArray n u (by rw[D9];lia)) ⟨e,?_⟩;refine⟨.non,_,I.lset (its':=its++[u]) hH e (by simp) (r.append (.cons ru .nil)) ?_,rfl,q⟩;rw[D8,EV];lia
def k8:V->List V->Hp->VK->Prop:=λx vs H Q=>∃l b xs zs,x=.ref l/\vs=[.ref b]/\H l=some (.lst xs)/\H b=some (.lst zs)/\xs.length+zs.length<=Ox/\Q .non (upd H l (.lst (xs++zs)))
theorem pv:MtM X "list.extend" k8:=by
 intro pins s σ H x vs v us Q I rx rv h;obtain⟨l,b,xs,zs,rfl,rfl,hH,hB,hz,q⟩:=h;cases rx;obtain⟨u,rfl,ru⟩:=rv.one;cases ru;obtain⟨z,its,n,r,hl,e⟩:=I.lstM hH;obtain⟨z2,its2,n2,r2,hl2,e2⟩:=I.lstM hB;have hsz:its.toArray.size+its2.toArray.size<=Ox:=by rw[D9,D9];lia
 have hlong:¬(!its.toArray.isEmpty && FA (its.toArray.size+its2.toArray.size))=true:=by
  rw[eV hsz,Ml];exact Ei
 refine O6 KZ ⟨_,e,rfl⟩ KP (Kz _ _)
  (LI l its.toArray n b its2.toArray n2 hlong (by rw[D9];lia) ⋯) ⟨e,e2,?_⟩
 refine⟨.non,_,I.lset (its':=its++its2) hH e (by simp) (r.append r2) ?_,rfl,q⟩;rw[D8];lia
def Bj:V->List V->Hp->VK->Prop:=λx vs H Q=>∃l xs y,x=.ref l/\vs=[]/\H l=some (.lst xs)/\xs[xs.length - 1]? = some y/\Q y (upd H l (.lst xs.dropLast))
theorem yD:MtM X "list.pop" Bj:=by
 intro pins s σ H x vs v us Q I rx rv h;obtain⟨l,xs,y,rfl,rfl,hH,hy,q⟩:=h;cases rx;have hus:=rv.zero;subst hus;obtain⟨z,its,n,r,hl,e⟩:=I.lstM hH;obtain⟨u,hu,ru⟩:=r.get hy;have hy':its.toArray[its.toArray.size - 1]? = some u:=by
  show its.toArray[its.length - 1]? = some u
  rw[<-Gb,<-hl];exact hu
 refine O6 F.slot_list_pop ⟨_,e,rfl⟩ F.entry_list_pop (F.args_list_pop_1 _) (Nq l its.toArray n u hy' (by rw[D9];lia)) ⟨e,?_⟩;refine⟨y,_,I.lset (its':=its.dropLast) hH e ?_ r.dropLast ?_,ru,q⟩
 ·show its.toArray.eraseIdxIfInBounds (its.toArray.size - 1)=its.dropLast.toArray
  rw[D9,List.eraseIdxIfInBounds_toArray,nN]
 ·rw[List.length_dropLast]
  lia
def l9:V->List V->Hp->VK->Prop:=λx vs H Q=>∃l xs,x=.ref l/\vs=[]/\H l=some (.lst xs)/\Q .non (upd H l (.lst xs.reverse))
theorem nO:MtM X "list.reverse" l9:=by
 intro pins s σ H x vs v us Q I rx rv h;obtain⟨l,xs,rfl,rfl,hH,q⟩:=h;cases rx;have hus:=rv.zero;subst hus;obtain⟨z,its,n,r,hl,e⟩:=I.lstM hH;refine O6 F.slot_list_reverse ⟨_,e,rfl⟩ F.entry_list_reverse (F.args_list_reverse_1 _) (Mm l its.toArray n (by rw[D9];lia)) ⟨e,?_⟩;refine⟨.non,_,I.lset (its':=its.reverse) hH e (by simp) r.reverse ?_,rfl,q⟩;rw[F3];lia
def Cw:R2:=λx y H Q=>∃l b xs zs,x=.ref l/\y=.ref b/\H l=some (.lst xs)/\H b=some (.lst zs)/\xs.length+zs.length<=Ox/\∀p,H p=none->Q (.ref p) (upd H p (.lst (xs++zs)))
theorem yE:OpR X (ON .Add) Cw:=by
 intro pins s σ H x y v u Q I rx ry h;obtain⟨l,b,xs,zs,rfl,rfl,hH,hB,hz,q⟩:=h;cases rx;cases ry;obtain⟨z,its,n,r,hl,e⟩:=I.lstM hH;obtain⟨z2,its2,n2,r2,hl2,e2⟩:=I.lstM hB;refine PySem.P.add_list e e2 ?_ (by rw[D9,D9];lia);have ea:its.toArray++its2.toArray=(its++its2).toArray:=by simp
 rw[ea];exact⟨.ref _,_,I.lnew (t':=s.toks) (r.append r2) (by rw[D8];lia),rfl,q _ I.fresh⟩
def Cy:R2:=λx y H Q=>∃l k xs,x=.ref l/\y=.int k/\H l=some (.lst xs)/\-(2 ^ 63)<=k/\k<2 ^ 63/\xs.length*k.toNat<=Ox/\
 ∀p,H p=none->Q (.ref p) (upd H p (.lst (Ef k.toNat xs).flatten))
theorem vM{α:Type}(xs:List α)(k:Nat):(Ef k xs).flatten.length=k*xs.length:=by
 induction k with
 | zero=>simp
 | succ k ih=>rw[Fe,GO,D8,ih,K0,Nat.add_comm]
theorem yF:OpR X (ON .Mult) Cy:=by
 intro pins s σ H x y v u Q I rx ry h;obtain⟨l,k,xs,rfl,rfl,hH,h1,h2,hz,q⟩:=h;cases rx;obtain⟨t,rfl⟩:=ry;obtain⟨z,its,n,r,hl,e⟩:=I.lstM hH;have hlen:its.toArray.size*k.toNat<=Ox:=by rw[D9,<-hl];exact hz
 have hcap:¬its.toArray.size*k.toNat > (2 ^ 63 - 1) / 8:=by
  have:(Ox:Nat)<=(2 ^ 63 - 1) / 8:=by decide
  lia
 have hfit:¬(!Builtin.List.listFitsIndex k)=true:=by
  rw[fitsIndex_both h1 h2];exact Ei
 have hlong:¬FA (its.toArray.size*k.toNat)=true:=by
  rw[eV hlen];exact Ei
 have hnew:LZ (λx1 x2=>x1++x2) #[] (Ef (if its.toArray.isEmpty=true then 0 else k.toNat) its.toArray)=(Ef k.toNat its).flatten.toArray:=by
  have f0:∀m:Nat,LZ (λx1 x2=>x1++x2) #[] (Ef m its.toArray)=(Ef m its).flatten.toArray:=λm=>by
   have:=j9 its m [];rw[Gc]at this;exact this
  rw[f0];cases its with
  | nil=>simp
  | cons a r'=>rw[if_neg (by simp)]
 refine wpAny_binaryOp_repeat_ref (T:="list") (U:="int") (by decide) ⟨_,e,rfl⟩ (λs'=>typeIs_int s' k t) noFill_list_mul F.fills_int_mul L3 repeat_list F.slot_int_index.lookup
  (O6 L3 (typeIs_int s k t) F.entry_int_rmul (F.args_int_rmul_2 _ _) (int___rmul___int_list k t l its.toArray n)
   ⟨e,rfl,⟨_,e,rfl⟩,O6 F.slot_list_mul ⟨_,e,rfl⟩ F.entry_list_mul (F.args_list_mul_2 _ _) (LA l its.toArray n k t hfit hcap hlong) ⟨e,?_⟩⟩)
 rw[hnew];exact⟨.ref _,_,I.lnew (t':=s.toks) (r.rep k.toNat) (by rw[vM,M7];exact hz),rfl,q _ I.fresh⟩
end
section
variable{prog:Program}{w:World}{A:Around}{E:Value->Shared->Prop}{s:Shared}
theorem pz(its its2:List Value)(a c:Nat):its.toArray.extract 0 a++its2.toArray++its.toArray.extract c its.toArray.size=(its.take a++its2++its.drop c).toArray:=by
  apply HR.mp
  first
    | (simp
       exact DW (by simp))
    | simp[DW]
    | simp
theorem nP{a:Nat}(hac:a<=c)(hc:c<=n):O0 (some (a:Int)) (some (c:Int)) none n=((a:Int),(c:Int),1):=by
 simp only[O0,Jx];have h1:¬((a:Int)<0):=by lia
 have h2:¬((c:Int)<0):=by lia
 simp only[h1,h2,if_false,show(1:Int) > 0 by decide,if_true];congr 1
 ·lia
 ·congr 1;lia
set_option maxRecDepth 100000 in
theorem jj{b:Addr}{new:Array Value}{n2:Nat}{a:Nat}{Q:Unit->Shared->Prop}
    (e:s.heap.get? l=some { cls:=.type "list",data:=.seq items n }) (e2:s.heap.get? b=some { cls:=.type "list",data:=.seq new n2 }) (hne:l≠b)
    (hs:s.heap.IsSliceOf sl vl vu .none) (pl:IsPart vl (some (a:Int))) (pu:IsPart vu (some (c:Int))) (hac:a<=c) (hc:c<=items.size)
    (hsz:items.size+new.size<=Ox) (h:Q () { s with heap:=s.heap.update l (E6 λxs=>xs.extract 0 a++new++xs.extract c xs.size) }) :
    wpAny (model prog w) A (setItem (.ref l) (.ref sl) (.ref b)) Q E s:=by
  have hl:s.heap.IsList l items:=LJ e;have hb:s.heap.IsList b new:=LJ e2;obtain⟨os,hos,hcs,hds⟩:=id hs;have hTs:s.TypeIs (.ref sl) "slice":=⟨os,hos,hcs⟩;have hstep:¬((rawPart none == Pc 0)=true):=Ei;have hsame:Gx (.ref l) (.ref b)=false:=by
    unfold Gx;exact beq_eq_false_iff_ne.mpr hne
  have hmax:(max (a:Int) (c:Int)).toNat=c:=by lia
  have hz':((λxs:Array Value=>xs.extract 0 a++new++xs.extract c xs.size) items).size<=Ox+1:=by
    simp only[Lm,Hk];lia
  unfold setItem
  try with_reducible refine Oy ?_
  first|refine Ov (Ow ?_)|skip
  refine Ov (wpAny_sequenceKey hl.typeIs (by decide) ?_);refine Ov (OE (name:=Ey "__setitem__") hl.typeIs slot_list_setitem
    (OG slot_list_setitem hl.typeIs entry_list_setitem ?_ (args_list_setitem _ _ _)))
  show wpAny _ _ (IP (.ref sl) >>= _) _ _ s
  refine Ov ?_;unfold IP;refine Ov (wpAny_specialOf hTs slice_no_index ?_);simp only[Option.isNone_none,if_true];refine Ow ?_;show wpAny _ _ (typeOf (.ref sl) >>= _) _ _ s
  refine Ov (O4 hTs ?_)
  first
    | rw[if_neg (by decide)]
    | refine IQ (by decide) ?_
  rw[listSliceParts_eq];refine Ov (Ov (OA hos hds (x:=.none) rfl (Ov (wpAny_listPart .none ?_))));rw[if_neg hstep];refine Ov (OA hos hds (x:=vl) rfl (Ov (wpAny_listPart pl ?_)));refine Ov (OA hos hds (x:=vu) rfl (Ov (wpAny_listPart pu (Ow ?_))))
  first
    | simp only[hsame,ER,if_false]
    | refine IQ hsame ?_
    | (dsimp only
       rw[if_neg (by rw[hsame];exact Ei)])
  refine Ov (m:=Jp (.ref b) "must assign iterable to extended slice") ?_;unfold Jp;refine Ov (O4 hb.typeIs ?_)
  first
    | refine NW (by decide) ?_
    | rw[if_pos (by decide)]
    | simp only[beq_self_eq_true,Jy,if_true]
  unfold Nr;refine Ov (OK e2 rfl (Ow ?_));refine Ov (Ov (OK e rfl (Ow ?_)));refine Ov (wpAny_of_eq ((sliceIndices_raw (some (a:Int)) (some (c:Int)) none items.size (by simp)).trans (congrArg (pure:Int×Int×Int->Sem (Int×Int×Int)) (nP hac hc))) ?_);show wpAny _ _ (if((1:Int) == 1)=true then _ else _) _ _ s
  rw[if_pos (by decide)];refine Ov (O1 ?_)
  first
    | simp only[eV hsz,ER,if_false]
    | refine IQ (eV hsz) ?_
  first|refine Ov (Ow ?_)|skip
  show wpAny _ _ (updateSeq l (λxs=>xs.extract 0 ((a:Int)).toNat++new++xs.extract (max (a:Int) (c:Int)).toNat xs.size) >>= _) _ _ s
  rw[hmax,E3];refine Ov (OV (hz:=ET (Fj _ _) hsz) (_hz':=hz') e rfl ?_);refine Ov (O7 ?_)
  first
    | exact Ov (Ow (Ow ⟨.none,rfl,Ow h⟩))
    | exact Ow ⟨.none,rfl,Ow h⟩
end
section
variable{X:Cx}
theorem pA{s:Shared}{H:Hp}{b:Addr}{a c:Int}{Q:Unit->Shared->Prop}(I:Inv X pins σ H s)
  (hH:H l=some (.lst xs)) (hB:H b=some (.lst ys)) (hne:l≠b) (hs:s.heap.IsSliceOf sl vl vu .none) (ra:RelV (.int a) vl) (rc:RelV (.int c) vu) (h0:0<=a) (hac:a<=c) (hc:c<=xs.length)
  (hz:xs.length+ys.length<=Ox) (h:∀s',Inv X pins σ (upd H l (.lst (xs.take a.toNat++ys++xs.drop c.toNat))) s'->Q () s') :
  wpAny (model X.prog X.w) X.A (setItem (.ref l) (.ref sl) (.ref b)) Q X.xe s:=by
 obtain⟨ta,rfl⟩:=ra;obtain⟨tc,rfl⟩:=rc;obtain⟨z,its,n,r,hl,e⟩:=I.lstM hH;obtain⟨z2,its2,n2,r2,hl2,e2⟩:=I.lstM hB;obtain⟨a',rfl⟩:=JI h0;obtain⟨c',rfl⟩:=JI (K1 h0 hac);simp only[E3]at h;refine jj (a:=a') (c:=c') e e2 hne hs (.int _ _) (.int _ _) ⋯ (by rw[D9];lia) (by rw[D9,D9];lia) (h _ ?_);refine I.lset (its':=its.take a'++its2++its.drop c') (t':=s.toks) hH e ?_ (Vals.append (Vals.append (r.take _) r2) (r.drop _)) ?_
 ·exact pz its its2 a' c'
 ·rw[D8,D8,Ee,EO]
  lia
end
end L2
namespace Att
open PySem PySem.W PySem.Calls PyProof.Rows
theorem gI{P:Params}:∀(ns:List Int) (vs:List Value),WellAll P h vs (ns.map WData.int)->OI vs ns:=by
 intro ns
 induction ns with
 | nil=>
  intro vs w;rw[Ik]at w;cases w;exact .nil
 | cons n ns ih=>
  intro vs w;rw[Ez]at w;cases w with
  | cons a b=>
   cases a;exact .cons _ _ (ih _ b)
theorem pB{l:OpenLaw}(hn:l.most=some n){P:Params}{args:List WData}{vals:List Value}
  (hpre:l.row.toRowW.claim.pre args=true) (hwl:WellAll P h vals args) :
  ∃a vs ns,vals=[Ep a]/\args=[WData.list (ns.map WData.int)]/\h.get? a=some { cls:=.type "list",data:=.seq vs.toArray }/\OI vs ns/\ns.length<=n:=by
 have hsh:WShape.hasAll [] args [.list .int]=true:=(pre_splitW hpre).1;have hc:l.pre.holds [] { args:=args }=true:=(pre_splitW hpre).2;obtain⟨d,r,rfl,h1,h2⟩:=hasAllW_cons hsh;obtain rfl:=hasAllW_nil h2;obtain⟨xs,rfl,h3⟩:=hasW_list h1;obtain⟨ns,rfl⟩:=items_int h3;have hlen:ns.length<=n:=by
  unfold OpenLaw.pre at hc;have h4:(WTm.not (.lt (.lit (.int (n:Int))) (.len (.arg 0)))).holds [] { args:=[.list (ns.map .int)] }=true:=by
   have h4:=(holds_andW hc).1;rw[hn]at h4;exact h4
  have h5:=condW_of h4 (w_not (w_lt w_lit (w_len_list (w_arg rfl))));rw[DT]at h5;refine Nat.le_of_not_lt λq=>?_
  have q':(n:Int)<((ns.length:Nat):Int):=by lia
  first
   | (rw[decide_eq_true q']at h5;exact absurd h5 (by decide))
   | (simp at h5;lia)
 cases hwl with
 | cons w1 w2=>
  cases w2;cases w1 with
  | list ho hall=>exact⟨_,_,ns,rfl,rfl,ho,gI ns _ hall,hlen⟩
theorem pC(l:OpenLaw)(args:List WData):l.row.toRowW.claim.post args (.bool true) args=true:=
 postW_of (r:=l.row.toRowW) (X:=(true == true))
  (show WShape.has [] (.bool true) .bool=true by first|rfl|decide|simp[WShape.has,WShape.arms,WShape.armsAll])
  (show(WTm.eq .res (.lit (.bool true))).value [] { args:=args,res:=some (.bool true),after:=args }=some (.bool (true == true))from w_eq_bool (w_res rfl) w_lit) rfl
theorem k9{l:OpenLaw}{loose:List Str}{XP:(Str->Option Value)->Heap->Prop}{YP:World->Heap->Prop}{d:DefRec}
  (hn:l.most=some n) (hdf:d.params.defaults=[])
  (call:∀(w:World) (s₀ s₁:Shared) (mg mb:Str->Option Value) (fa:Addr) (o:Obj) (pm cd doc:Value) (a:Addr) (vs:List Value) (ns:List Int),
   Ground q loose [] XP w s₀ mg mb s₁.heap->YP w s₁.heap->
   s₁.heap.get? fa=some o->o.data=.func (docDef d.name d.params d.body d.scope pm cd doc)->s₁.heap.CodeRec cd d.name->mg d.name=some (.ref fa)->
   s₁.heap.get? a=some { cls:=.type "list",data:=.seq vs.toArray }->OI vs ns->ns.length<=n->s₁.gens=#[]->
   codeAny (model l.prog w) callerA (.call (.ref fa) ⟨[.ref a],[]⟩) (λr s'=>r=.ok (.ret (.bool true))/\OldK s₁.heap s'.heap/\s'.os=s₁.os/\AllBare s'.gens) s₁) :
  WalkO q loose XP YP l.row.toRowW d [] (λf vs=>L4 f vs):=by
 intro w s₀ s₁ mg mb G Y fa o pm cd doc dV kV ho hd hcd hD hmg hg args vals as hpre hlay hrd hwl hlo;obtain rfl:dV=.none:=Dflts.none hD hdf;obtain rfl:kV=.none:=Dflts.noKw hD;obtain⟨a,vs,ns,rfl,rfl,hobj,hints,hlen⟩:=pB hn hpre hwl;refine enter_call (codeAny_mono (call w s₀ s₁ mg mb fa o pm cd doc a vs ns G Y ho (fd_plain hd) hcd hmg hobj hints hlen hg) λr s' hq=>?_);obtain⟨rfl,h2,h3,h4⟩:=hq;exact⟨.inl ⟨.bool true,.bool true,[],rfl,λ_=>rfl,.bool true,pC l _,λ_=>⟨GP,λ_ hm=>(nomatch hm)⟩⟩,h2,h3,h4⟩
section
variable{prog:Program}{w:World}{A:Around}{E:Value->Shared->Prop}{s:Shared}{K:Frag}
end
end Att
namespace L2
open PySem PySem.Spec PyProof.Rows
theorem ka:∀{vs:List Value}{ns:List Int},OI vs ns->Vals (ns.map Of) vs
 | _,_,.nil=>.nil
 | _,_,.cons n t h=>.cons ⟨t,rfl⟩ (ka h)
def Bk(H:Hp):Prop:=∀b,H b=none\/∃o xs,H b=some (.frz o (.lst xs))
theorem rV{w:World}{K:DU}{mg mb:Str->Option Value}{CX:CXT}{k:Nat}{fa:Addr}{fd:FuncData}{sp:Sp}{s₁:Shared}{vs:List Value}{ns:List Int}
  (KX:K.In s₁.heap) (hns:s₁.heap.Ns mainGlobals mg) (hb:s₁.heap.Ns builtinsNs mb) (hbb:∀x:Str,x≠"__name__"->mb x=bootBuiltins x) (hlim:s₁.heap.NoLimit) (hg:s₁.gens=#[])
  (ha:s₁.heap.get? a=some { cls:=.type "list",data:=.seq vs.toArray }) (hi:OI vs ns) (hl:ns.length<=Ox) (hr:Room k callerA)
  (F:∀base:Heap,K.In base->base.Ns mainGlobals mg->FnOk P w K mg base CX k fa fd [x] sp) (hbind:∀(s:Shared) (u:Value),BindsTo s fd ⟨[u],[]⟩ [(x,u)])
  (hsp:∀H:Hp,Bk H->SqL K H a (ns.map Of)->sp [.ref a] H (λv _=>v=.bl true) λ_ _ _=>False)
  (hCX:∀H e s',CX [] H s₁ (λ_ _ _=>False) e s'->False) :
  codeAny (model P w) callerA (.call (.ref fa) ⟨[.ref a],[]⟩) (λr s'=>r=.ok (.ret (.bool true))/\OldK s₁.heap s'.heap/\s'.os=s₁.os/\AllBare s'.gens) s₁:=by
 have rv:=ka hi;have lenV:=hi.length
 -- from an abstract heap in which nothing but the script may be tracked
 have core:∀H:Hp,Bk H->SqL K H a (ns.map Of)->HOk P w H s₁.heap->(∀b,H b≠none->b=a)->(H a≠none->K.lookup a=none)->
   codeAny (model P w) callerA (.call (.ref fa) ⟨[.ref a],[]⟩) (λr s'=>r=.ok (.ret (.bool true))/\OldK s₁.heap s'.heap/\s'.os=s₁.os/\AllBare s'.gens) s₁:=by
  intro H hO hS hok hA hK;have base_of:∀{b:Addr}{o:Obj},s₁.heap.get? b=some o->H b=none->(rB s₁.heap H).get? b=some o:=λe n=>rD e n
  have noA:∀{b:Addr}{o:Obj}{es:Array DictEntry}{ep:Nat},s₁.heap.get? b=some o->o.data=.dict es ep->H b=none:=λ{b o es ep} e d=>by
   cases q:H b with
   | none=>rfl
   | some u=>
    have e':b=a:=hA b (by rw[q];simp);subst e';rw[ha]at e;cases e;have d':M8 vs.toArray _=Data.dict es ep:=d;cases d'
  have nsK:∀{b:Addr}{m:Str->Option Value},s₁.heap.Ns b m->(rB s₁.heap H).Ns b m:=λ{b m} ⟨o,es,ep,e,d,r⟩=>⟨o,es,ep,base_of e (noA e d),d,r⟩
  have hKb:K.In (rB s₁.heap H):=λb o e=>base_of (KX b o e) (by
   cases q:H b with
   | none=>rfl
   | some u=>
    have e':b=a:=hA b (by rw[q];simp);subst e';rw[hK (by rw[q];simp)]at e;cases e)
  have hM:Mod K mg (rB s₁.heap H):=⟨hKb,nsK hns,⟨mb,nsK hb,hbb⟩,let⟨mc,h1,h2⟩:=hlim;⟨mc,nsK h1,h2⟩⟩;have e0:Env0 P w K mg (rB s₁.heap H) callerA [] s₁ H:=⟨rfl,hM,λb o e=>u6 e,Gy (oK _ _),trivial,λb hb=>absurd (show b∈([]:List Addr)from hb) (by simp),hok,.of_eq hg⟩;refine codeAny_mono ((F _ hKb (nsK hns)).run callerA [] s₁ H ⟨[.ref a],[]⟩ [.ref a] [.ref a] _ _ hr e0 (hbind s₁ (.ref a)) (.cons rfl .nil) (hsp H hO hS)) λr s' h=>?_
  cases r with
  | error e=>exact(hCX H e s' h).elim
  | ok fl=>
   cases fl with
   | next=>exact FW h
   | brk=>exact FW h
   | cont=>exact FW h
   | ret u=>
    obtain⟨v,H',os,bare,un,hok',r',q⟩:=h;have q':v=.bl true:=q;subst q';obtain rfl:u=Gk true:=r';refine⟨rfl,OldK.of_keep λb o e=>?_,os,bare⟩;cases q:H b with
    | none=>exact un.keep b o e q (by intro z;exact absurd (show b∈([]:List Addr)from z) (by simp)) (by simp)
    | some u=>
     rcases hO b with z|⟨ob,xs,z⟩
     ·rw[q]at z;cases z
     ·have z2:=un.frzs b ob _ z
      obtain⟨e1,_⟩:=hok b _ z;obtain⟨e2,_⟩:=hok' b _ z2;rw[e]at e1;cases e1;exact e2
 cases hk:K.lookup a with
 | some o=>
  -- the script is one of the module's own objects
  have e:=KX a o hk;rw[ha]at e;cases e;refine core (λ_=>none) (λ_=>.inl rfl) (.inr ⟨_,vs.toArray,_,hk,rfl,rfl,rfl,by rw[D9,lenV];exact hl,by simpa using rv⟩) (λb u z=>by have z':(none:Option HO)=some u:=z;cases z') (λb z=>absurd rfl z) λz=>absurd rfl z
 | none=>
  refine core (λb=>if b=a then some (.frz { cls:=.type "list",data:=.seq vs.toArray } (.lst (ns.map Of)))else none) (λb=>?_) (.inl (.inr ⟨{ cls:=.type "list",data:=.seq vs.toArray },if_pos rfl⟩)) (λb u z=>?_) (λb z=>?_) λ_=>hk
  ·by_cases hb:b=a
   ·exact .inr ⟨_,_,if_pos hb⟩
   ·exact .inl (if_neg hb)
  ·by_cases hb:b=a
   ·have z':=(if_pos hb).symm.trans z
    cases z';subst hb;exact⟨ha,by rw[DT];exact hl,vs,_,rv,ha⟩
   ·have z':=(if_neg hb).symm.trans z
    cases z'
  ·by_cases hb:b=a
   ·exact hb
   ·exact absurd (if_neg hb) z
theorem vN{l:JX}{k:Nat}{q:Program}{loose:List Str}{XP:(Str->Option Value)->Heap->Prop}{YP:World->Heap->Prop}{d:DefRec}{K:Params->DU}{CX:World->CXT}{sp:World->Sp}
  (hn:l.most=some n) (hn2:n<=Ox) (hdf:d.params.defaults=[]) (hr:Room k callerA)
  (hY:∀(w:World) (h:Heap),YP w h->(K w.params).In h)
  (F:∀(w:World) (mg:Str->Option Value) (fa:Addr) (h:Heap),(K w.params).In h->h.Ns mainGlobals mg->mg d.name=some (.ref fa)->
   ∃fd:FuncData,(∀(s:Shared) (u:Value),BindsTo s fd ⟨[u],[]⟩ [(x,u)])/\
    ∀base:Heap,(K w.params).In base->base.Ns mainGlobals mg->FnOk l.prog w (K w.params) mg base (CX w) k fa fd [x] (sp w))
  (hsp:∀(w:World) (H:Hp) (a:Addr) (ns:List Int),ns.length<=n->Bk H->SqL (K w.params) H a (ns.map Of)->sp w [.ref a] H (λv _=>v=.bl true) λ_ _ _=>False)
  (hCX:∀(w:World) (H:Hp) (s:Shared) (e:Value) (s':Shared),CX w [] H s (λ_ _ _=>False) e s'->False) :
  Mv q loose XP YP l.row.toRowW d [] (λf vs=>L4 f vs):=by
 refine Att.k9 hn hdf λw s₀ s₁ mg mb fa o pm cd doc a vs ns G Y ho hd hcd hmg hobj hints hlen hg=>?_
 have KX:=hY w _ Y;obtain⟨fd,hb,hF⟩:=F w mg fa _ KX G.T.g hmg;exact rV KX G.T.g G.T.b G.T.builtins G.T.nolimit hg hobj hints (ET hlen hn2) hr hF hb (λH hO hS=>hsp w H a ns hlen hO hS) λH e s'=>hCX w H s₁ e s'
noncomputable def eE(s:Stmt):Arguments:=match s with
 | .FunctionDef _ a _ _ _ _ _ _ _ _=>a
 | _=>{ posonlyargs:=[],args:=[],vararg:=none,kwonlyargs:=[],kw_defaults:=[],kwarg:=none,defaults:=[] }
noncomputable def cZ(s:Stmt):List Stmt:=match s with
 | .FunctionDef _ _ b _ _ _ _ _ _ _=>b
 | _=>[]
noncomputable def bI(s:Stmt):Scope:=match s with
 | .FunctionDef _ _ _ _ _ _ sc _ _ _=>sc
 | _=>{ kind:=.function,names:=[],isGenerator:=false,isCoroutine:=false }
noncomputable abbrev CX0:CXT:=λ_ _ _ _ _ _=>False
noncomputable abbrev E0:XK:=λ_ _ _=>False
theorem jk:iN CX0 X E0:=λ_ _ _ _ _ _ _ h=>h.elim
structure Fun (K:DU) (x qual:Str) (st:Stmt) (f:Addr) (fd:FuncData):Prop where
 ex:∃(oc:Value) (od:Option Addr) (kV doc pm:Value) (an:Option Addr) (cdv ct:Value) (osl:Array (Option Value)),
  fd=F8 x qual (eE st) (cZ st) (bI st) .none kV doc pm an cdv ct/\K.lookup f=some ⟨oc,od,.func fd,osl⟩/\ID K cdv qual=true
 kp:Gu K (.ref f)=true
section
variable{P:Program}{w:World}{K:DU}{mg:Str->Option Value}{base:Heap}
theorem Fun.ok{st:Stmt}{f:Addr}{fd:FuncData}{N ps:List Str}{k:Nat}{sp:Sp}(F:Fun K x qual st f fd)(S:FnScope N ps (bI st))(len:∀vs H Q E,sp vs H Q E->vs.length=ps.length)
  (hbody:∀(cdv:Value) (A:Around) (outer:List Env) (s:Shared) (H:Hp) (vs:List V) (Q:VK) (E:XK),Room k (A.deeper (envOfC qual (bI st) s.heap.objs.size f cdv))->sp vs H Q E->
   ∃t,PSs (uw CX0 P w K mg base N qual (bI st) f cdv A outer s H E).nox (cZ st) t/\t { nx:=λ_ H'=>Q .non H',rt:=Q } (start N vs) H):FnOk P w K mg base CX0 (k+1) f fd ps sp:=by
 obtain⟨oc,od,kV,doc,pm,an,cdv,ct,osl,rfl,lk,hcd⟩:=F.ex;refine Bg lk hcd S len λA outer s H vs Q E hr hsp=>?_
 obtain⟨t,h,q⟩:=hbody cdv A outer s H vs Q E hr hsp;exact⟨t,h.nox,q⟩
theorem Fun.binds{st:Stmt}{f:Addr}{fd:FuncData}{ps:List Str}(F:Fun K x qual st f fd)
  (h:∀(kV doc pm:Value) (an:Option Addr) (cdv ct:Value) (us:List Value),us.length=ps.length->bindArgs (F8 x qual (eE st) (cZ st) (bI st) .none kV doc pm an cdv ct) ⟨us,[]⟩=pure (ps.zip us)):Binds K fd ps []:=by
 obtain⟨oc,od,kV,doc,pm,an,cdv,ct,osl,rfl,lk,hcd⟩:=F.ex;exact .all (h kV doc pm an cdv ct)
theorem uA{st:Stmt}{f:Addr}{oc:Value}{od an:Option Addr}{osl:Array (Option Value)}{kV doc pm cdv ct:Value}(l:K.lookup f=some ⟨oc,od,.func (F8 x qual (eE st) (cZ st) (bI st) .none kV doc pm an cdv ct),osl⟩)
  (c:ID K cdv qual=true) (k:Gu K (.ref f)=true):Fun K x qual st f (F8 x qual (eE st) (cZ st) (bI st) .none kV doc pm an cdv ct):=⟨⟨oc,od,kV,doc,pm,an,cdv,ct,osl,rfl,l,c⟩,k⟩
end
theorem nQ{A:Around}{k:Nat}(hr:Room k A):A.units+1<cLine:=E4 (Nat.add_le_add_left (by decide:1<=64) _) hr.units
theorem au(h:n<=1000):n<Ox:=E4 h (by decide)
section
variable{X:Cx}
end
def Same(H H':Hp):Prop:=∀b o,H b=some o->H' b=some o
theorem Same.refl(H:Hp):Same H H:=λ_ _ h=>h
theorem Same.trans{H H2:Hp}(a:Same H H1)(b:Same H1 H2):Same H H2:=λc o h=>b c o (a c o h)
theorem Same.free{H:Hp}(e:Same H H')(h:H' l=Nt):H l=Nt:=by
 cases q:H l with
 | none=>rfl
 | some o=>
  rw[e l o q]at h;cases h
theorem Same.seq{K:DU}{H:Hp}(e:Same H H')(h:SqL K H a xs):SqL K H' a xs:=by
 rcases h with(h|⟨o,h⟩)|h
 ·exact .inl (.inl (e _ _ h))
 ·exact .inl (.inr ⟨o,e _ _ h⟩)
 ·exact .inr h
section
variable{X:Cx}{pins:List (Addr×Obj)}{σ:St}{H:Hp}{s:Shared}
theorem Inv.adopt{D:Addr}(I:Inv X pins σ H s)(hn:H D=none)(hL:D≠X.env.locals)
  (h1:D∈X.ex\/X.s₀.heap.objs.size<=D) (h2:∀x c,X.env.cells.lookup x=some c->c≠D) (h3:∀p∈X.pn++pins,p.1≠D)
  (new:ObjOk X.prog X.w (upd H D o) s.heap D o):Inv X pins σ (upd H D o) s:=by
 have nit:∀b u,H b=some u->b≠D:=λb u e z=>by rw[z,hn]at e;cases e
 have keep:∀b u,H b=some u->upd H D o b=some u:=λb u e=>by rw[aB (nit b u e)];exact e
 refine I.step (h':=s.heap) (g':=s.gens) (d':=s.drawn) (t':=s.toks) (ch:=[D]) (λb hb=>?_) (λb o _ _ _ e _=>e) (λb o _ _ _ e _=>⟨o.slots,e⟩) (λb u hc e n=>?_)
  (λb o _ e=>⟨o,e⟩) (λb xs e=>keep b _ e) (λb o u e=>keep b _ e) (λb ps e=>⟨#[],by rw[keep b _ e];simp⟩) (λm hm=>hm) (λb u e=>?_) I.bare
 ·have e:b=D:=by simpa using hb
  subst e;exact⟨h1,hL,h2,h3⟩
 ·rw[aB (λz=>hc (by simp[z]))];exact n
 ·by_cases hb:b=D
  ·subst hb;rw[aj]at e;cases e;exact new
  ·rw[aB hb]at e
   exact(I.hok b u e).stay (λc v _ q=>q) (λc q=>keep c _ q) λc xs q=>keep c _ q
end
noncomputable def bc(X:Cx)(N:List Str)(scope:Scope)(cl:List (Str×Addr))(fp:List Addr)(C:Addr)(s:Shared)(H:Hp):Cx:=
 { X with N:=N,s₀:=s,H₀:=H,env:=compEnvC scope cl C X.env,outer:=X.stack,ex:=fp,fn:=λ_=>false,pn:=[],xe:=λ_ _=>False }
noncomputable def FrOk(X:Cx)(scope:Scope)(cl:List (Str×Addr)):List Str->Prop
 | []=>True
 | x::r=>(X.env.kindOf x=some .cell/\(relabel scope X.env).names.lookup x=some .cell/\∃c,cl.lookup x=some c/\X.env.cells.lookup x=some c)/\FrOk X scope cl r
theorem FrOk.mem{X:Cx}{scope:Scope}{cl:List (Str×Addr)}:∀{l:List Str},FrOk X scope cl l->∀x∈l,
  X.env.kindOf x=some .cell/\(relabel scope X.env).names.lookup x=some .cell/\∃c,cl.lookup x=some c/\X.env.cells.lookup x=some c
 | [],_,_,h=>nomatch h
 | y::r,⟨h1,h2⟩,x,h=>by
  rcases Eb.mp h with e|e
  ·subst e;exact h1
  ·exact FrOk.mem h2 x e
noncomputable def ClOk(X:Cx):List (Str×Addr)->Prop
 | []=>True
 | p::r=>X.env.cells.lookup p.1=some p.2/\ClOk X r
theorem ClOk.get{X:Cx}:∀{l:List (Str×Addr)},ClOk X l->∀x c,l.lookup x=some c->X.env.cells.lookup x=some c
 | [],_,_,_,h=>by simp at h
 | p::r,⟨h1,h2⟩,x,c,h=>by
  obtain⟨n,a⟩:=p;cases e:x == n with
  | true=>
   have e':x=n:=by simpa using e
   subst e';simp only[Gz,e]at h;cases h;exact h1
  | false=>
   simp only[Gz,e]at h;exact ClOk.get h2 x c h
structure CompOk (X:Cx) (N tgs frs:List Str) (ix:List Nat) (scope:Scope) (cl:List (Str×Addr)):Prop where
 clos:closureFor scope X.env=pure cl
 cell:∀y∈scope.names,y.2≠.cell
 kind:scope.kind=.function
 names:∀y∈scope.names,y.2=.local->scope.names.lookup y.1=some .local
 nm:N=tgs++frs
 ixs:ix.map (X.N[·]?)=frs.map some
 fr:FrOk X scope cl frs
 cls:ClOk X cl
 has:(relabel scope X.env).names.all (λp=>!(p.2 == .cell || p.2 == .free) || (cl.lookup p.1).isSome)=true
noncomputable def cQ(tgs:List Str)(ix:List Nat)(σ:St):St:=Ef tgs.length none++ix.map λj=>(σ[j]?).getD none
section
variable{X:Cx}{N tgs frs:List Str}{ix:List Nat}{scope:Scope}{cl:List (Str×Addr)}
theorem nR(c:CompOk X N tgs frs ix scope cl)(h1:N[i]? = some x)(h2:(cQ tgs ix σ)[i]? = some (some v)):x∈frs/\∃j:Nat,X.N[j]? = some x/\σ[j]? = some (some v):=by
 unfold cQ at h2;by_cases hi:i<tgs.length
 ·rw[Ek (by simpa using hi),F1,if_pos hi]at h2
  cases h2
 ·rw[EE (by simpa using hi),Fz,DX]at h2
  rw[c.nm,EE ⋯]at h1;have e:=congrArg (·[i - tgs.length]?) c.ixs;simp only[DX,h1]at e;cases q:ix[i - tgs.length]? with
  | none=>rw[q]at e;cases e
  | some j=>
   rw[q]at e h2;simp only[JT,Ln]at e h2;refine⟨Ew h1,j,e,?_⟩;cases z:σ[j]? with
   | none=>rw[z]at h2;cases h2
   | some o=>rw[z]at h2;simp at h2;rw[h2]
theorem dS{l:List (Str×NameKind)}{k:NameKind}(h:l.lookup x=some k):(x,k)∈l:=F2 h
theorem CompOk.hasOf(c:CompOk X N tgs frs ix scope cl)(h:(relabel scope X.env).names.lookup x=some .cell\/(relabel scope X.env).names.lookup x=some .free):∃a,cl.lookup x=some a:=by
 have all:=FM.mp c.has;rcases h with h|h
 ·have q:=all _ (dS h)
  exact Gv.mp (by simpa only[beq_self_eq_true,Jy,GF,HK]using q)
 ·have q:=all _ (dS h)
  exact Gv.mp (by simpa only[beq_self_eq_true,K2,GF,HK]using q)
theorem rW{H:Hp}{s2:Shared}{h1:Heap}{C:Addr}{m:Str->Option Value}(c:CompOk X N tgs frs ix scope cl)(I:Inv X pins σ H s2)(hf:∀b∈fp,oF X pins H b)(hfl:∀b∈fp,b<s2.heap.objs.size)
  (hC:s2.heap.objs.size<=C) (hns:h1.Ns C m) (hk:∀b o,s2.heap.get? b=some o->h1.get? b=some o){pins':List (Addr×Obj)}
  (hpin:∀p∈pins',h1.get? p.1=some p.2/\s2.heap.objs.size<=p.1/\p.1≠C/\∀v,p.2.data≠.cell v) :
  Inv (bc X N scope cl fp C s2 H) pins' (cQ tgs ix σ) H { s2 with heap:=h1,toks:=tk }:=by
 have hcn:∀x a,cl.lookup x=some a->X.env.cells.lookup x=some a:=c.cls.get
 have clt:∀x a,cl.lookup x=some a->a<s2.heap.objs.size:=λx a e=>by
  obtain⟨v,q⟩:=I.cell x a (hcn x a e);exact q.lt
 refine⟨⟨I.ok.mod,c.kind,I.ok.glob,I.ok.blt,hC,λx y a h1 h2=>I.ok.inj x y a (hcn _ _ h1) (hcn _ _ h2),λx hx=>c.hasOf hx,(λx a z _=>Bool.noConfusion z),I.ok.hd,I.ok.frames,.inl rfl,λb hb=>⟨?_,λx a e=>?_⟩,I.bs,ET I.ok.bsz I.sz,λb o e hb=>?_,λb hb z=>?_,I.stack,I.stkFree⟩,
  rfl,I.bare,Un.kept hk,⟨m,hns,λi x v e1 e2 e3=>?_⟩,λx a e=>?_,I.hok.fresh hC,λx a e=>I.freeC x a (hcn x a e),λp hp=>?_,I.hok.kept hk,?_⟩
 ·exact Eh (El (hfl b hb) hC)
 ·exact(hf b hb).2.2.2.2.1 x a (hcn x a e)
 ·rcases(hf b hb).2.2.2.1 with z|z
  ·exact I.ok.noex b o e z
  ·exact absurd (El (D2 (I.ok.bs b o e).1) z) (E9 _)
 ·rcases Eb.mp (I.stkSub b z)with e|e
  ·exact(hf b hb).2.1 e
  ·exact(hf b hb).2.2.1 e
 ·obtain⟨hx,j,n1,n2⟩:=nR c e1 e2
  obtain⟨k1,k2,a,l1,l2⟩:=c.fr.mem x hx;obtain⟨m',_,hl⟩:=I.loc;obtain⟨u,r,l⟩:=hl j x v n1 n2 (.inr (.inl k1));refine⟨u,r,.inr ⟨.inl k2,a,l1,?_⟩⟩;rcases l with⟨l,_⟩|⟨_,a',l3,o,l4,l5⟩
  ·rw[k1]at l;cases l
  ·rw[l2]at l3;cases l3
   exact⟨o,hk _ _ l4,l5⟩
 ·obtain⟨v,o,q1,q2⟩:=I.cell x a (hcn x a e)
  exact⟨v,o,hk _ _ q1,q2⟩
 ·have hp':p∈pins':=by simpa [bc]using hp
  obtain⟨q1,q2,q3,q4⟩:=hpin p hp';exact⟨q1,I.hok.fresh q2,q3,λz=>by
   rcases Eb.mp (I.stkSub p.1 z)with e|e
   ·exact absurd (El I.lt q2) (by rw[e];exact E9 _)
   ·exact I.nofs q2 e,q4⟩
 ·show(cQ tgs ix σ).length=N.length
  unfold cQ;have e:=congrArg G7 c.ixs;simp only[DT]at e;rw[c.nm];simp[e]
theorem fX{prog:Program}{w:World}{A:Around}{R:Result->Shared->Prop}{s:Shared}{elt target iter:Expr}{pos:Pos}{it acc:Value}{env:Env}(I:Nat->Shared->Prop)
  (turn:∀n s,I n s->wpAny (model prog w) A (pyNext it) (λr s1=>match r with
   | none=>R (.ok .next) s1
   | some v=>wpAny (model prog w) A (letOwnedTupleGo target it v) (λ_ s1'=>wpAny (model prog w) A (assign target env v) (λ_ s2=>wpAny (model prog w) A (eval elt env) (λx s3=>
     wpAny (model prog w) A (call (.builtin "list.append") [acc,x]) (λ_ s4=>∃m,m<n/\I m s4) (λ_ _=>False) s3)
     (λ_ _=>False) s2) (λ_ _=>False) s1') (λ_ _=>False) s1) (λ_ _=>False) s)
  (n:Nat) (h:I n s) :
  codeAny (model prog w) A (.compLoop (.ListComp elt [⟨target,iter,[],0⟩] scope pos) 0 it acc env) R s:=by
 have up:∀{α:Type}{t:Sem α}{Q Q':α->Shared->Prop}{E:Value->Shared->Prop}{s:Shared},wpAny (model prog w) A t Q (λ_ _=>False) s->(∀a s,Q a s->Q' a s)->wpAny (model prog w) A t Q' E s:=λh hq=>OD h hq λ_ _ f=>f.elim
 refine codeAny_loop rfl I (λn s hI=>?_) n h;show wpAny _ _ ((compTurn (.ListComp elt [⟨target,iter,[],0⟩] scope pos) 0 it acc env).onRaise (λx=>do noteFrame x env;theTreesLotGoes x)) _ _ s
 refine wpAny_noted ?_;rw[compTurn_list1];refine Ov (OX (Ov (up (turn n s hI) (λr s1 h1=>?_))));cases r with
 | none=>exact Ow h1
 | some v=>
  refine Ov (up h1 λ_ s1' h1'=>?_);exact Ov (up h1' (λ_ s2 h2=>Ov (Ov (up h2 (λx s3 h3=>Ov (up h3
   (λ_ s4 h4=>Ow (Ow ⟨rfl,h4⟩))))))))
def lg(wi:TI)(g:TG)(te:TE)(tgs:List Str)(ix:List Nat):TE:=λσ H Q=>wi σ H λJ H1=>
 ∃W:Nat->Nat->List V->St->Hp->Prop,(∃m,W 0 m [] (cQ tgs ix σ) H1)/\∀i m xs σc H,W i m xs σc H->xs.length<Ox/\
  ((J.stop i H/\∀p,H p=none->Q (.ref p) (upd H p (.lst xs)))\/(J.go i H/\∀x H',J.yld i H x H'->g x σc H' λσ2 H2=>te σ2 H2 λy H3=>∃m',m'<m/\W (i+1) m' (xs++[y]) σ2 H3))
noncomputable abbrev cx (us:List Value) (k:Nat):Obj:={ cls:=.type "list",data:=.seq us.toArray k }
theorem jl{prog:Program}{w:World}{A:Around}{R:Result->Shared->Prop}{s:Shared}{elt target iter cnd:Expr}{pos:Pos}{it acc:Value}{env:Env}(I:Nat->Shared->Prop)
  (turn:∀n s,I n s->wpAny (model prog w) A (pyNext it) (λr s1=>match r with
   | none=>R (.ok .next) s1
   | some v=>wpAny (model prog w) A (letOwnedTupleGo target it v) (λ_ s1'=>wpAny (model prog w) A (assign target env v) (λ_ s2=>wpAny (model prog w) A (isTrue cnd env (eval cnd env)) (λb s2'=>if b=true then wpAny (model prog w) A (eval elt env) (λx s3=>
     wpAny (model prog w) A (call (.builtin "list.append") [acc,x]) (λ_ s4=>∃m,m<n/\I m s4) (λ_ _=>False) s3)
     (λ_ _=>False) s2' else ∃m,m<n/\I m s2') (λ_ _=>False) s2) (λ_ _=>False) s1') (λ_ _=>False) s1) (λ_ _=>False) s)
  (n:Nat) (h:I n s) :
  codeAny (model prog w) A (.compLoop (.ListComp elt [⟨target,iter,[cnd],0⟩] scope pos) 0 it acc env) R s:=by
 have up:∀{α:Type}{t:Sem α}{Q Q':α->Shared->Prop}{E:Value->Shared->Prop}{s:Shared},wpAny (model prog w) A t Q (λ_ _=>False) s->(∀a s,Q a s->Q' a s)->wpAny (model prog w) A t Q' E s:=λh hq=>OD h hq λ_ _ f=>f.elim
 refine codeAny_loop rfl I (λn s hI=>?_) n h;show wpAny _ _ ((compTurn (.ListComp elt [⟨target,iter,[cnd],0⟩] scope pos) 0 it acc env).onRaise (λx=>do noteFrame x env;theTreesLotGoes x)) _ _ s
 refine wpAny_noted ?_;rw[compTurn_list];refine Ov (OX (Ov (up (turn n s hI) (λr s1 h1=>?_))));cases r with
 | none=>exact Ow h1
 | some v=>
  refine Ov (up h1 λ_ s1' h1'=>?_);refine Ov (up h1' λ_ s2 h2=>?_);simp only[JY,IE,if_true];refine Ov (Ov (Ov (up h2 λb s3 h3=>Ow (Ow ?_))));cases b with
  | true=>
   rw[if_pos rfl]at h3;show wpAny _ _ (if true=true then _ else _) _ _ _
   rw[if_pos rfl];exact Ov (Ov (up h3 (λx s4 h4=>Ov (up h4 (λ_ s5 h5=>Ow (Ow ⟨rfl,h5⟩))))))
  | false=>
   rw[if_neg (by decide)]at h3;show wpAny _ _ (if false=true then _ else _) _ _ _
   rw[if_neg (by decide)];exact Ow ⟨rfl,h3⟩
def elB(M:Model)(A:Around)(E:Value->Shared->Prop)(oc:Option Expr)(elt:Expr)(env:Env)(K:Option Value->Shared->Prop)(s:Shared):Prop:=match oc with
 | none=>wpAny M A (eval elt env) (λx s'=>K (some x) s') E s
 | some c=>wpAny M A (isTrue c env (eval c env)) (λb s1=>if b=true then wpAny M A (eval elt env) (λx s'=>K (some x) s') E s1 else K none s1) E s
theorem elB.mono{M:Model}{A:Around}{E:Value->Shared->Prop}{oc:Option Expr}{env:Env}{K K':Option Value->Shared->Prop}{s:Shared}(h:elB M A E oc elt env K s)(k:∀r s',K r s'->K' r s'):elB M A E oc elt env K' s:=by
 cases oc with
 | none=>exact OD h (λx s' e=>k _ _ e) λ_ _ e=>e
 | some c=>
  refine OD h (λb s1 e=>?_) λ_ _ e=>e
  cases b with
  | true=>exact OD e (λx s' e=>k _ _ e) λ_ _ e=>e
  | false=>exact k _ _ e
theorem jm{prog:Program}{w:World}{A:Around}{R:Result->Shared->Prop}{s:Shared}{elt target iter:Expr}{oc:Option Expr}{pos:Pos}{it acc:Value}{env:Env}(I:Nat->Shared->Prop)
  (turn:∀n s,I n s->wpAny (model prog w) A (pyNext it) (λr s1=>match r with
   | none=>R (.ok .next) s1
   | some v=>wpAny (model prog w) A (letOwnedTupleGo target it v) (λ_ s1'=>wpAny (model prog w) A (assign target env v) (λ_ s2=>elB (model prog w) A (λ_ _=>False) oc elt env (λr s3=>match r with
     | none=>∃m,m<n/\I m s3
     | some x=>wpAny (model prog w) A (call (.builtin "list.append") [acc,x]) (λ_ s4=>∃m,m<n/\I m s4) (λ_ _=>False) s3) s2) (λ_ _=>False) s1') (λ_ _=>False) s1) (λ_ _=>False) s)
  (n:Nat) (h:I n s) :
  codeAny (model prog w) A (.compLoop (.ListComp elt [⟨target,iter,oc.toList,0⟩] scope pos) 0 it acc env) R s:=by
 cases oc with
 | none=>exact fX I turn n h
 | some c=>exact jl I turn n h
noncomputable abbrev TB:=St->Hp->(Option V->Hp->Prop)->Prop
def PB(X:Cx)(oc:Option Expr)(elt:Expr)(tb:TB):Prop:=∀(pins:List (Addr×Obj)) (s:Shared) (σ:St) (H:Hp) (R:Option V->Hp->Prop),Inv X pins σ H s->tb σ H R->elB (model X.prog X.w) X.A X.xe oc elt X.env (λr s'=>∃H',Inv X pins σ H' s'/\match r with
 | none=>R none H'
 | some u=>∃y,RelV y u/\R (some y) H') s
noncomputable def tbE(te:TE):TB:=λσ H R=>te σ H λy H'=>R (some y) H'
noncomputable def tbF(tc:TT)(te:TE):TB:=λσ H R=>tc σ H λb H1=>if b=true then te σ H1 λy H'=>R (some y) H' else R none H1
theorem PB.no{X:Cx}{te:TE}(he:PE X elt te):PB X none elt (tbE te):=λpins s σ H R I h=>OD (he pins s σ H _ I h) (λu s' ⟨y,H',I',r,q⟩=>⟨H',I',y,r,q⟩) λ_ _ e=>e
theorem PB.ts{X:Cx}{te:TE}(hcd:PT X cnd tc)(he:PE X elt te):PB X (some cnd) elt (tbF tc te):=λpins s σ H R I h=>OD (hcd pins s σ H _ I h) (λb s1 ⟨H1,I1,q⟩=>by
 cases b with
 | true=>exact OD (he pins s1 σ H1 _ I1 q) (λu s' ⟨y,H',I',r,q⟩=>⟨H',I',y,r,q⟩) λ_ _ e=>e
 | false=>exact⟨H1,I1,q⟩) λ_ _ e=>e
def pD(wi:TI)(g:TG)(tb:TB)(tgs:List Str)(ix:List Nat):TE:=λσ H Q=>wi σ H λJ H1=>
 ∃W:Nat->Nat->List V->St->Hp->Prop,(∃m,W 0 m [] (cQ tgs ix σ) H1)/\∀i m xs σc H,W i m xs σc H->xs.length<Ox/\
  ((J.stop i H/\∀p,H p=none->Q (.ref p) (upd H p (.lst xs)))\/(J.go i H/\∀x H',J.yld i H x H'->g x σc H' λσ2 H2=>tb σ2 H2 λr H3=>match r with
   | none=>∃m',m'<m/\W (i+1) m' xs σ2 H3
   | some y=>∃m',m'<m/\W (i+1) m' (xs++[y]) σ2 H3))
theorem kb{oc:Option Expr}{tb:TB}(c:CompOk X N tgs frs ix scope cl)(hc:X.calm=true)(hi:PI X tg iter wi)
  (hg:∀fp C s H,PG (bc X N scope cl fp C s H) tg g) (hb:∀fp C s H,PB (bc X N scope cl fp C s H) oc elt tb)
  (hs:∀x,Oz iter X.env x=pure x){use:Option (Value->Sem Unit)}{R:Value->Shared->Prop}{pins:List (Addr×Obj)}{s:Shared}{σ:St}{H:Hp}{Q:VK}
  (hfin:∀{H':Hp}{D C:Addr}{s':Shared}{m:Str->Option Value},Inv X pins σ H' s'->s'.heap.Ns C m->H' C=none->C≠X.env.locals->(C∈X.ex\/X.s₀.heap.objs.size<=C)->(∀x y,X.env.cells.lookup x=some y->y≠C)->(∀p∈X.pn++pins,p.1≠C)->C∉X.fs->Q (.ref D) H'->
   compPost (model X.prog X.w) X.A X.xe use R (.ref D) C (.ok .next) s')
  (I:Inv X pins σ H s) (h:pD wi g tb tgs ix σ H Q) :
  wpAny (model X.prog X.w) X.A (comprehension (.ListComp elt [⟨tg,iter,oc.toList,0⟩] scope pos) scope X.env pos' (newList []) false (eval iter X.env) use) R X.xe s:=by
 refine wpAny_comprehension_free (use:=use) rfl hs c.clos c.kind c.names (thn (hi pins s σ H _ I h) λxv s1 h1=>thn h1 λitv s2 h2=>?_);obtain⟨it,fp,tn,J,H2,rfl,I2,T,st2,f2,W,⟨m0,w0⟩,turn⟩:=h2;have hfl:∀b∈fp,b<s2.heap.objs.size:=λb hb=>by
  obtain⟨o,e,_⟩:=T.obj _ _ st2 b hb;exact D2 e
 have hcn:∀x a,cl.lookup x=some a->X.env.cells.lookup x=some a:=c.cls.get
 refine OB (wpAny_newFunctionEnv c.cell (by intro y hy;simp at hy) (λh1 hns1 hsb1=>?_) c.kind);dsimp only at hns1 hsb1 ⊢;generalize hH2:s2.heap.push { cls:=.type "list",dict:=none,data:=.seq ([]:List Value).toArray }=G2 at hns1 hsb1 ⊢;have hC:G2.objs.size=s2.heap.objs.size+1:=by rw[<-hH2,FO]
 generalize hCC:G2.objs.size=C at *;generalize hDD:s2.heap.objs.size=D at *;have hDC:D≠C:=by lia
 have hCle:D<=C:=by lia
 have old:∀b o,s2.heap.get? b=some o->h1.get? b=some o:=λb o e=>by
  have lt:b<s2.heap.objs.size:=D2 e;exact hsb1.extBut b o (Eh (El (hDD▸lt) hCle)) (DV _ (hH2▸DV _ e))
 have hacc:h1.get? D=some (cx [] 0):=hsb1.extBut _ _ hDC (DV _ (hH2▸(hDD▸Ea _ rfl)));have cellD:∀x a,X.env.cells.lookup x=some a->a<D:=λx a e=>by
  obtain⟨v,q⟩:=I2.cell x a e;exact hDD▸q.lt
 have fpc:∀{H':Hp}{us:List Value}{k:Nat},(∀b∈fp,H' b=none)->∀b∈fp,oF (bc X N scope cl fp C s2 H2) [(D,cx us k)] H' b:=λ{H' us k} hn b hb=>by
  have lb:=hfl b hb;refine⟨hn b hb,?_,λz=>?_,.inl hb,λx a e z=>?_,λp hp=>?_⟩
  ·exact Eh (El lb hCle)
  ·rcases Eb.mp (I2.stkSub b z)with e|e
   ·exact(f2 b hb).2.1 e
   ·exact(f2 b hb).2.2.1 e
  ·exact(f2 b hb).2.2.2.2.1 x a (hcn x a e) z
  ·have:p=(D,cx us k):=by simpa [bc]using hp
   rw[this];exact EU lb
 have D_fs:D∉(bc X N scope cl fp C s2 H2).fs:=λz=>by
  rcases Eb.mp (I2.stkSub D z)with e|e
  ·exact absurd I2.lt (by rw[<-e,hDD];exact E9 _)
  ·exact I2.nofs (Gy hDD) e
 have I3:=rW (tk:=s2.toks+([]:List (Str×Value)).length) (pins':=[(D,cx [] 0)]) c I2 f2 (λb hb=>hDD▸hfl b hb) (hDD▸hCle:s2.heap.objs.size<=C) hns1 old (λp hp=>by
  have e:p=(D,cx [] 0):=by simpa using hp
  subst e;exact⟨hacc,Gy hDD,hDC,λv z=>by cases z⟩)
 have tn3:tn 0 h1:=T.keep _ _ _ st2 λb _ o e=>old b o e
 have loop:codeAny (model X.prog X.w) X.A (.compLoop (.ListComp elt [⟨tg,iter,oc.toList,0⟩] scope pos) 0 (.ref it) (.ref D) (compEnvC scope cl C X.env))
   (compPost (model X.prog X.w) X.A X.xe use R (.ref D) C) { s2 with heap:=h1,toks:=s2.toks+([]:List (Str×Value)).length }:=by
  refine jm (λn s'=>∃i xs us k σc H',Inv (bc X N scope cl fp C s2 H2) [(D,cx us k)] σc H' s'/\tn i s'.heap/\(∀b∈fp,H' b=none)/\Vals xs us/\W i n xs σc H') ?_ m0
   ⟨0,[],[],0,_,H2,I3,tn3,λb hb=>(f2 b hb).1,.nil,w0⟩
  rintro n s4 ⟨i,xs,us,k,σ4,H4,I4,tn4,fr4,rv,w4⟩;obtain⟨hsz,tt⟩:=turn i n xs σ4 H4 w4;rcases tt with⟨stop,fin⟩|⟨go,step⟩
  ·refine thn (T.done (bc X N scope cl fp C s2 H2) rfl rfl rfl hc i _ s4 σ4 H4 _ I4 (fpc fr4) tn4 stop) λr s5 ⟨hr,I5⟩=>?_
   subst hr;obtain⟨m,ns,_⟩:=I5.loc;have J1:Inv X pins σ H4 s5:=I2.call' I5.os I5.base I5.hok I5.bare λb hb=>⟨(f2 b hb).2.2.2.1,(f2 b hb).2.1,(f2 b hb).2.2.2.2.1,(f2 b hb).2.2.2.2.2⟩
   have big:∀a,D<=a->a≠X.env.locals/\(a∈X.ex\/X.s₀.heap.objs.size<=a)/\(∀x y,X.env.cells.lookup x=some y->y≠a)/\∀p∈X.pn++pins,p.1≠a:=λa ha=>by
    obtain⟨q0,q1,q2,q3,q4,q5⟩:=I2.fpOk (b:=a) (H':=λ_=>none) (hDD▸ha) rfl;exact⟨q1,q3,q4,q5⟩
   obtain⟨b1,b2,b3,b4⟩:=big C hCle;obtain⟨p1,p2,p3,p4,p5⟩:=I5.pin (D,cx us k) (by simp);obtain⟨d1,d2,d3,d4⟩:=big D (DY _);exact hfin (J1.adopt (D:=D) (o:=.lst xs) p2 d1 d2 d3 d4 ⟨Fv hsz,us,k,rv,p1⟩) ns (by rw[aB (E5 hDC)];exact I5.free) b1 b2 b3 b4 (I2.nofs (hDD▸hCle)) (fin D p2)
  ·refine thn (T.item (bc X N scope cl fp C s2 H2) rfl rfl rfl hc i _ s4 σ4 H4 _ I4 (fpc fr4) tn4 go) λr s5 ⟨u,hr,h5⟩=>?_
   subst hr;refine thn h5 λ_ s6 ⟨x,H6,I6,r6,y6,tn6,fr6⟩=>?_
   have I6':=I6.pinned (fpc fr6) (T.obj _ _ tn6);refine thn (hg fp C s2 H2 _ s6 σ4 H6 x u _ I6' r6 (step x H6 y6)) λ_ s7 ⟨σ7,H7,I7,q7⟩=>?_
   refine(hb fp C s2 H2 _ s7 σ7 H7 _ I7 q7).mono λr s8 ⟨H8,I8,q8⟩=>?_
   have tn8:tn (i+1) s8.heap:=T.keep _ _ _ tn6 λb hb o e=>(I8.pin (b,o) (Eg _ (Eg _ (cO hb e)))).1
   have fr8:∀b∈fp,H8 b=none:=λb hb=>by
    obtain⟨o,e,d⟩:=T.obj _ _ tn6 b hb;exact(I8.pin (b,o) (Eg _ (Eg _ (cO hb e)))).2.1
   cases r with
   | none=>
    obtain⟨m',hm,w8⟩:=q8;exact⟨m',hm,i+1,xs,us,k,σ7,H8,I8.unpinned,tn8,fr8,rv,w8⟩
   | some yv=>
   obtain⟨y,r8,m',hm,w8⟩:=q8;obtain⟨p1,p2,p3,p4,p5⟩:=I8.pin (D,cx us k) (by simp[bc]);have hsz':us.toArray.size<=Ox:=by simp;rw[<-rv.length];exact Fv hsz
   refine wpAny_list_append_plain (hsz:=hsz') ⟨k,p1⟩ λh' pl sb=>?_
   have I9:Inv (bc X N scope cl fp C s2 H2) [] σ7 H8 s8:=I8.pins_of λp hp=>nomatch hp
   have I10:Inv (bc X N scope cl fp C s2 H2) [] σ7 H8 { s8 with heap:=h' }:=I9.turned (t':=s8.toks) (it:=D) (λb o hb e=>sb.extBut b o hb e) p2 p3 (.inr (Gy hDD))
    (λx a e=>Eh (cellD x a (hcn x a e))) (λp hp=>by simp[bc]at hp)
   obtain⟨k',pl⟩:=pl;have eu:us.toArray.push yv=(us++[yv]).toArray:=by simp
   rw[eu]at pl;have I11:Inv (bc X N scope cl fp C s2 H2) [(D,cx (us++[yv]) k')] σ7 H8 { s8 with heap:=h' }:=I10.pins_of λp hp=>by
    have e:p=(D,cx (us++[yv]) k'):=by simpa using hp
    subst e;exact⟨pl,p2,p3,p4,λv z=>by cases z⟩
   exact⟨m',hm,i+1,xs++[y],us++[yv],k',σ7,H8,I11,T.keep _ _ _ tn8 λb hb o e=>sb.extBut b o (Eh (hfl b hb)) e,fr8,rv.append (.cons r8 .nil),w8⟩
 exact codeAny_compStart_list loop (T.self _ 0 _ _ _ tn3 loop)
theorem yG{Q:VK}{D C:Addr}{m:Str->Option Value}(J:Inv X pins σ H' s')(ns:s'.heap.Ns C m)(hC:H' C=none)(b1:C≠X.env.locals)(b2:C∈X.ex\/X.s₀.heap.objs.size<=C)(b3:∀x y,X.env.cells.lookup x=some y->y≠C)(b4:∀p∈X.pn++pins,p.1≠C)(_:C∉X.fs)(q:Q (.ref D) H'):
  compPost (model X.prog X.w) X.A X.xe none (EP X pins σ Q) (.ref D) C (.ok .next) s':=
 ⟨m,ns,λh' sb=>⟨.ref D,H',J.turned (t':=s'.toks) (λb o hb e=>sb.extBut b o hb e) hC b1 b2 b3 b4,rfl,q⟩⟩
theorem yH{Dn:Ends}{y:Str}(hN:X.N.Nodup)(hy:X.N[iy]? = some y)(hx:Loc X.env.scope y)(hf:X.fn y=true\/X.env.scope.names.lookup y=some .local){D C:Addr}{m:Str->Option Value}(J:Inv X pins σ H' s')(ns:s'.heap.Ns C m)(hC:H' C=none)(b1:C≠X.env.locals)(b2:C∈X.ex\/X.s₀.heap.objs.size<=C)(b3:∀x y,X.env.cells.lookup x=some y->y≠C)(b4:∀p∈X.pn++pins,p.1≠C)(nf:C∉X.fs)(q:Dn.nx (σ.set iy (some (.ref D))) H'):
  compPost (model X.prog X.w) X.A X.xe (some (assign (.Name y py) X.env)) (λ_ s'=>SP X pins Dn .next s') (.ref D) C (.ok .next) s':=by
 obtain⟨oC,esC,epC,hoC,hdC,rC⟩:=id ns;have J4:Inv X (pins++[(C,oC)]) σ H' s':=J.pins_of λp hp=>by
  rcases Et.mp hp with z|z
  ·exact J.pin p (Eg _ z)
  ·have e:p=(C,oC):=by simpa using z
   subst e;exact⟨hoC,hC,b1,nf,λv z=>by rw[hdC]at z;cases z⟩
 show wpAny _ X.A (assign (.Name y py) X.env (.ref D)) _ _ s'
 refine wpAny_assign_Name (dR J4 hN hy hx (v:=.ref D) rfl (λs6 J5=>?_) hf);have hC6:=(J5.pin (C,oC) (Eg _ (Eg _ (by simp)))).1;exact⟨m,⟨oC,esC,epC,hC6,hdC,rC⟩,λh' sb=>⟨_,_,J5.unpinned.turned (t':=s6.toks) (λb o hb e=>sb.extBut b o hb e) hC b1 b2 b3 b4,q⟩⟩
theorem me{oc:Option Expr}{tb:TB}(c:CompOk X N tgs frs ix scope cl)(hc:X.calm=true)(hi:PI X tg iter wi)
  (hg:∀fp C s H,PG (bc X N scope cl fp C s H) tg g) (hb:∀fp C s H,PB (bc X N scope cl fp C s H) oc elt tb) (hs:∀x,Oz iter X.env x=pure x) :
  PE X (.ListComp elt [⟨tg,iter,oc.toList,0⟩] scope pos) (pD wi g tb tgs ix):=λpins s σ H Q I h=>by
 rw[eval_ListComp];exact kb c hc hi hg hb hs yG I h
theorem pE{oc:Option Expr}{y:Str}{tb:TB}(hN:X.N.Nodup)(hy:X.N[iy]? = some y)(hx:Loc X.env.scope y)(c:CompOk X N tgs frs ix scope cl)(hc:X.calm=true)(hi:PI X tg iter wi)
  (hg:∀fp C s H,PG (bc X N scope cl fp C s H) tg g) (hb:∀fp C s H,PB (bc X N scope cl fp C s H) oc elt tb) (hs:∀x,Oz iter X.env x=pure x)
  (hsw:OY (.ListComp elt [⟨tg,iter,oc.toList,0⟩] scope pos) (some (.Name y py)) spos.line X.env=pure true) (hf:X.fn y=true\/X.env.scope.names.lookup y=some .local) :
  PS X (.Assign [.Name y py] (.ListComp elt [⟨tg,iter,oc.toList,0⟩] scope pos) spos) (nC (pD wi g tb tgs ix) (dk iy)):=λpins s σ H Dn I h=>by
 rw[exec_Assign_Name_used _ _ _ _ hsw];refine Ov (OX (Ov ?_));show wpAny _ X.A (do let _ <-comprehension (.ListComp elt [⟨tg,iter,oc.toList,0⟩] scope pos) scope X.env _ (newList []) false (eval iter X.env) (some (assign (.Name y py) X.env))) _ _ s
 exact Ov (OD (kb (R:=λ_ s'=>SP X pins Dn .next s') c hc hi hg hb hs (yH hN hy hx hf) I h) (λ_ s' hq=>Ow (Ow hq)) λ_ _ e=>e)
theorem vO{te:TE}(c:CompOk X N tgs frs ix scope cl)(hc:X.calm=true)(hi:PI X tg iter wi)
  (hg:∀fp C s H,PG (bc X N scope cl fp C s H) tg g) (he:∀fp C s H,PE (bc X N scope cl fp C s H) elt te)
  (hs:∀x,Oz iter X.env x=pure x:=by intro _;rfl) :
  PE X (.ListComp elt [⟨tg,iter,[],0⟩] scope pos) (lg wi g te tgs ix):=me (oc:=none) (tb:=tbE te) c hc hi hg (λfp C s H=>.no (he fp C s H)) hs
end
section
variable{X:Cx}
def pF(i j:Int):Prop:=0<j/\j.natAbs.log2<9000
theorem nT{j:Int}(h0:0<j)(h:j<2 ^ 64):j.natAbs.log2<9000:=by
 have:j.natAbs<2 ^ 64:=by lia
 have h2:=(Nat.log2_lt (by lia:j.natAbs≠0)).mpr this;lia
theorem rX:OpR X (ON .FloorDiv) (rI pF λi j=>.int (i / j)):=opI λi j _ _ _ _ _ hc q=>by
 have e:i.fdiv j=i / j:=I0 _ (K3 hc.1);exact floordiv_int (Int.ne_of_gt hc.1) (by rw[e];exact q) (.inl (Hl hc.2))
theorem rY (hc:X.calm=true):cL X (.builtin "sum") (λxs H Q=>∃(p:Addr) (ns:List Int),xs=[.ref p]/\SqL X.K H p (ns.map Of)/\Q (.int ns.sum) H):=by
 intro pins s σ H xs us Q I r h;obtain⟨p,ns,rfl,hq,q⟩:=h;obtain⟨u,rfl,ru⟩:=eD r;cases ru;obtain⟨its,rv,hp,hz⟩:=I.list hq;have hi:OI its ns:=cB rv;have hl:=hp.isList;obtain⟨zs,hx⟩:=hi.allInts.items;have hn:numsOf its.toArray.toList=ns:=by rw[show its.toArray.toList=its from rfl,hi.numsOf]
 rw[hx]at hl hn;rw[nums_intItems]at hn;refine sum_intListG (I.ok.hd hc) hl λh' tk t' hk=>?_
 refine⟨.int ns.sum,H,I.kept hk,⟨t',?_⟩,q⟩;rw[preSum_eq,DW (by simp),hn]
theorem pG{bs:List Bool}(h:bs.length=n):(DZ n).all (λi=>bs.getD i true)=bs.all id:=by
 subst h;rw[GH,FM,FM];constructor
 ·intro h b hb
  obtain⟨i,hi,rfl⟩:=Gn.mp hb;have:=h i (by simpa using hi);simpa [hi]using this
 ·intro h i hi
  have hi:i<bs.length:=by simpa using hi
  simp only[DS,DR hi,LK];exact h _ (D1 hi)
theorem vP{bs:List Bool}(rv:Vals (bs.map Og) its){v:Value}(h:its.toArray[i]? = some v){d:Bool}:v=.bool (bs.getD i d):=by
 have h':its[i]? = some v:=by simpa using h
 have hl:=rv.length;have hi:i<its.length:=(D6.mp h').1;have hi':i<bs.length:=by simpa using(by lia:i<(bs.map Og).length)
 obtain⟨u,e,ru⟩:=rv.get (i:=i) (x:=Og bs[i]) (by simp[hi']);rw[h']at e;cases e;have:v=.bool bs[i]:=ru;rw[this];simp[hi']
theorem rZ (hc:X.calm=true):cL X (.builtin "all") (λxs H Q=>∃(p:Addr) (bs:List Bool),xs=[.ref p]/\SqL X.K H p (bs.map Og)/\Q (.bl (bs.all id)) H):=by
 intro pins s σ H xs us Q I r h;obtain⟨p,bs,rfl,hq,q⟩:=h;obtain⟨u,rfl,ru⟩:=eD r;cases ru;obtain⟨its,rv,hp,hz⟩:=I.list hq;have hlt:p<s.heap.objs.size:=by obtain⟨o,e,_⟩:=hp.isList;exact D2 e
 refine call_all_walk (O5 hp.isList ?_);refine⟨s.heap.objs.size,_,_,_,_,_,λi=>bs.getD i true,rfl,L6 (A:=X.A.in1) (I.ok.hd hc) _ p (Eh hlt) its.toArray,⟨⟨_,Ea _ rfl,rfl,rfl⟩,hp.isList.at λo e=>DV _ e⟩,?_,λh' tk hk=>?_⟩
 ·intro i v s Q E hv hQ
  rw[vP rv hv (d:=true)];exact OO hQ
 ·have e:(DZ its.toArray.size).all (λi=>bs.getD i true)=bs.all id:=pG (by have:=rv.length;simpa using this)
  rw[e];exact⟨.bl (bs.all id),H,I.kept λb o e=>hk b o (by simp;exact Eh (D2 e)) (DV _ e),rfl,q⟩
theorem r9:cL X (.builtin "isinstance") (λxs H Q=>∃x t T b,xs=[x,.ty T]/\TyOf X.K H x t/\GR X.K t (.type T)=some b/\Q (.bl b) H):=by
 intro pins s σ H xs us Q I r h;obtain⟨x,t,T,b,rfl,ty,e,q⟩:=h;obtain⟨u,w',rfl,ru,rw'⟩:=vE r;cases(show w'=GW T from rw');exact o8 I ru ty e λtk=>⟨.bl b,H,I.tok _,rfl,q⟩
example (K:DU):GR K (.type "int") (.type "int")=some true:=rfl
example (K:DU):GR K (.type "int") (.type "bool")=some false:=rfl
example (K:DU):GR K (.type "tuple") (.type "tuple")=some true:=rfl
end
noncomputable def bS:Expr->Bool
 | .Starred ..=>false
 | _=>true
theorem aM{es:List Expr}{env:Env}(h:bS e=true):starEach (e::es) env=(false,eval e env)::starEach es env:=by
 cases e<;>first|rfl|cases h
theorem eX{pos:Pos}{env:Env}:∀{es:List Expr},es.all bS=true->(backTo pos (starEach es env)).any (·.1)=false
 | [],_=>rfl
 | e::es,h=>by
  rw[HL,EH]at h;rw[aM h.1];exact eX (es:=es) h.2
section
variable{X:Cx}{CX:CXT}{k:Nat}{f:Addr}{fd:FuncData}{ps:List Str}{sp:Sp}{E:XK}{x:Str}{p pos apos cpos:Pos}{e o:Expr}{es:List Expr}{te to:TE}{t:TA}{id T:String}{name:Str}
theorem Di(ha:PE X e te)(hr:PA X es t)(hn:bS e=true:=by rfl):PA X (e::es) (nH te t):=vG ha hr (aM hn)
theorem sf(F:FnOk X.prog X.w X.K X.mg X.base CX k f fd ps sp)(hr:Room k X.A)(hg:Gl X x)(hm:X.mg x=some (.ref f))(hk:Gu X.K (.ref f)=true)(hb:Binds X.K fd ps [])(hx:iN CX X E)
  (ha:PA X (e::es) t) (hn:(e::es).all bS=true:=by rfl) (hdb:(x == ("__debug__" : Str))=false:=by decide):PE X (.Call (.Name x p) (e::es) [] pos) (o9 sp [] E t):=by
 rw[HL,EH]at hn;exact vH F hr hg hm hk hb .nil hx ha hdb (aM hn.1) (eX hn.2)
theorem pH {r:List V->Hp->VK->Prop}(hc:cL X (.builtin id) r) (hg:Gl X x) (hm:X.mg x=none) (hv:bootBuiltins x=some (.builtin id)) (ha:PA X (e::es) t) (hn:(e::es).all bS=true:=by rfl) (hn2:x≠"__name__":=by decide) (hdb:(x == ("__debug__" : Str))=false:=by decide) :
  PE X (.Call (.Name x p) (e::es) [] pos) (tCB r t):=by
 rw[HL,EH]at hn;exact rQ hc hg hm hv ha hn2 hdb (aM hn.1) (eX hn.2)
theorem nU {r:List V->Hp->VK->Prop}(hc:cL X (.type T) r) (hg:Gl X x) (hm:X.mg x=none) (hv:bootBuiltins x=some (.type T)) (ha:PA X (e::es) t) (hn:(e::es).all bS=true:=by rfl) (hn2:x≠"__name__":=by decide) (hdb:(x == ("__debug__" : Str))=false:=by decide) :
  PE X (.Call (.Name x p) (e::es) [] pos) (tCB r t):=by
 rw[HL,EH]at hn;exact pe hc hg hm hv ha hn2 hdb (aM hn.1) (eX hn.2)
theorem mf {r:V->List V->Hp->VK->Prop}(pa:PlainAttrs T) (slot:Slot T name id) (hty:typeOf (.builtin id)=pure (.type "method_descriptor")) (hm:MtR X id r) (ho:PE X o to) (ha:PA X [e] t)
  (hbase:attributeBase o name X.env (eval o X.env)=eval o X.env:=by rfl) (hline:(apos.endLine == cpos.line)=true:=by rfl) (hn:bS e=true:=by rfl) :
  PE X (.Call (.Attribute o name apos) [e] [] cpos) (tBM X.K T r to t):=by
 refine yC pa slot hty hm ho ha hbase ?_ hline (aM hn) rfl;rw[aM hn];rfl
end
section
variable{K:DU}{σ:St}{H:Hp}{Q:VK}{D:Ends}{E:XK}
theorem Cz{t u:TS}(h:t { D with nx:=u D } σ H):AS t u D σ H:=h
theorem CA{te:TE}(h:te σ H λx H1=>g x σ H1 D.nx):nC te g D σ H:=h
theorem sg{R:St->Hp->Prop}(h:R (σ.set i (some v)) H):dk i v σ H R:=h
theorem Bl{t:vq}{R:St->Hp->Prop}(h:to σ H λo H1=>ti σ H1 λi H2=>t o i v H2 λH3=>R σ H3):AY to ti t v σ H R:=h
theorem CB{te:TE}(h:te σ H D.rt):AU te D σ H:=h
theorem Bm{te:TE}(h:te σ H λ_ H1=>D.nx σ H1):vo te D σ H:=h
theorem Bo(h:D.nx σ H):vi D σ H:=h
theorem Dj{c:TT}{t u:TS}(h:c σ H λb H1=>if b=true then t D σ H1 else u D σ H1):AV c t u D σ H:=h
theorem CC{c:TT}(h:c σ H λb H1=>if b=true then ta σ H1 Q else tb σ H1 Q):tIf c ta tb σ H Q:=h
theorem Bp{t:TE}{R:Bool->Hp->Prop}(h:t σ H λx H'=>∃k,x=.bl k/\R k H'):vC t σ H R:=h
theorem DO{t:TE}{R:Bool->Hp->Prop}(h:t σ H λx H'=>∃k,x=.bl k/\R k H'):tB t σ H R:=h
theorem Dk{b:Bool}{R:Bool->Prop}(h:R b):∃k,Og b=.bl k/\R k:=⟨b,rfl,h⟩
theorem CD{t:TT}{R:Bool->Hp->Prop}(h:t σ H λc H1=>R (!c) H1):AQ t σ H R:=h
theorem Dl{t u:TT}{R:Bool->Hp->Prop}(h:t σ H λc H1=>if c=true then R true H1 else u σ H1 R):tOr t u σ H R:=h
theorem CF{t u:TT}{R:Bool->Hp->Prop}(h:t σ H λc H1=>if c=true then u σ H1 R else R false H1):AO t u σ H R:=h
theorem Bq(h:ta σ H λx H1=>∃c,x=.bl c/\if c=true then tb σ H1 Q else Q (.bl false) H1):vg ta tb σ H Q:=h
theorem Br(h:ta σ H λx H1=>∃c,x=.bl c/\Q (.bl (!c)) H1):vh ta σ H Q:=h
theorem DP(h:Q v H):tC v σ H Q:=h
theorem Dm{r:R2}(h:ta σ H λx H1=>tb σ H1 λy H2=>r x y H2 Q):tOp r ta tb σ H Q:=h
theorem Do{r:V->Hp->VK->Prop}(h:ta σ H λx H1=>r x H1 Q):tUn r ta σ H Q:=h
theorem Dp{g:Int->Int->V}{i j:Int}(h:Q (g i j) H):rI0 g (.int i) (.int j) H Q:=⟨i,j,rfl,rfl,h⟩
theorem Bs{C:Int->Int->Prop}{g:Int->Int->V}{i j:Int}(c:C i j)(h:Q (g i j) H):rI C g (.int i) (.int j) H Q:=⟨i,j,rfl,rfl,c,h⟩
theorem DQ{g:Int->V}{i:Int}(h:Q (g i) H):rU g (.int i) H Q:=⟨i,rfl,h⟩
theorem CG{i j:Int}(h:Q (.bl (decide (Of i=Of j))) H):rEq (.int i) (.int j) H Q:=⟨rfl,h⟩
theorem CH{i j:Int}(h:Q (.bl (!decide (Of i=Of j))) H):rNe (.int i) (.int j) H Q:=⟨rfl,h⟩
theorem bJ{p:Addr}{i:Int}(s:SqL K H p xs)(a:atI xs i=some v)(h:Q v H):yz K (.ref p) (.int i) H Q:=⟨p,xs,i,v,rfl,rfl,s,a,h⟩
theorem mh{p:Addr}{i:Int}(s:SqT K H p xs)(a:atI xs i=some v)(h:Q v H):yA K (.ref p) (.int i) H Q:=⟨p,xs,i,v,rfl,rfl,s,a,h⟩
theorem gJ{p:Addr}{k:Int}{R:Hp->Prop}(s:H p=some (.lst xs))(a:ixN xs.length k=some j)(h:R (upd H p (.lst (xs.set j v)))):nM (.ref p) (.int k) v H R:=⟨p,xs,k,j,rfl,rfl,s,a,h⟩
theorem yI{p:Addr}{i:Int}(s:H p=some (.lst xs))(h:∃v,atI xs i=some v/\Q v H):yz K (.ref p) (.int i) H Q:=let⟨v,a,q⟩:=h;⟨p,xs,i,v,rfl,rfl,Od s,a,q⟩
theorem vQ{p:Addr}{i:Int}(s:H p=some (.tup xs))(h:∃v,atI xs i=some v/\Q v H):yA K (.ref p) (.int i) H Q:=let⟨v,a,q⟩:=h;⟨p,xs,i,v,rfl,rfl,Oe s,a,q⟩
theorem vR{p:Addr}{k:Int}{R:Hp->Prop}(s:H p=some (.lst xs))(h:∃j,ixN xs.length k=some j/\R (upd H p (.lst (xs.set j v)))):nM (.ref p) (.int k) v H R:=let⟨j,a,q⟩:=h;⟨p,xs,k,j,rfl,rfl,s,a,q⟩
theorem Dq{r:List V->Hp->VK->Prop}{t:TA}(h:t σ H λvs H1=>r vs H1 Q):tCB r t σ H Q:=h
theorem Bt{tr:TA}{R:List V->Hp->Prop}(h:ta σ H λx H1=>tr σ H1 λxs H2=>R (x::xs) H2):nH ta tr σ H R:=h
theorem CI{R:List V->Hp->Prop}(h:R [] H):Am σ H R:=h
theorem Bu{sp:Sp}{t:TA}(h:t σ H λvs H1=>sp (vs++[]) H1 Q E):o9 sp [] E t σ H Q:=h
theorem CJ{t:TA}(h:t σ H λxs H1=>xs.length<=Ox/\∀p,H1 p=none->Q (.ref p) (upd H1 p (.lst xs))):Bf t σ H Q:=h
theorem CK{t:TA}(h:t σ H λxs H1=>xs.length<=Ox/\∀p,H1 p=none->Q (.ref p) (upd H1 p (.tup xs))):Be t σ H Q:=h
theorem jo{A B:Prop}(h:A):if true=true then A else B:=by rw[if_pos rfl];exact h
theorem cH{A B:Prop}(h:B):if false=true then A else B:=by rw[if_neg Ei];exact h
theorem a9{c A B:Prop}[Decidable c](h1:c->A)(h2:¬c->B):if decide c=true then A else B:=by
 by_cases h:c
 ·rw[decide_eq_true h];exact jo (h1 h)
 ·rw[decide_eq_false h];exact cH (h2 h)
theorem cN{c A B:Prop}[Decidable c](hc:c)(h:A):if decide c=true then A else B:=by rw[decide_eq_true hc];exact jo h
theorem bX{c A B:Prop}[Decidable c](hc:¬c)(h:B):if decide c=true then A else B:=by rw[decide_eq_false hc];exact cH h
theorem gK{c A B:Prop}[Decidable c](hc:c)(h:B):if(!decide c)=true then A else B:=by rw[decide_eq_true hc];exact cH h
theorem aF(h:n<=1000):n<=Ox:=Fv (au h)
theorem Bv{i j:Int}(h1:0<j)(h2:j<2 ^ 64):pF i j:=⟨h1,nT h1 h2⟩
theorem Dr{i j:Int}(h1:0<j)(h2:j<1073741824):A8 i j:=⟨h1,h2⟩
theorem Bw{i j:Int}(h1:-(2 ^ 64)<i)(h2:i<2 ^ 64):CMul i j:=.inl ⟨h1,h2⟩
theorem Bx{i j:Int}(h1:-(2 ^ 64)<j)(h2:j<2 ^ 64):CMul i j:=.inr ⟨h1,h2⟩
theorem Ds{i j:Int}(h1:0<=j)(h2:j<=1000000)(h3:i.natAbs<2 ^ 64):Ak i j:=⟨h1,h2,h3⟩
theorem Ap(h:Q (.int 1000000000000000000) H):rI Ak (λi j=>.int (i ^ j.toNat)) (.int 10) (.int 18) H Q:=⟨10,18,rfl,rfl,⟨by decide,by decide,by decide⟩,by
 have e:(10:Int) ^ (18:Int).toNat=1000000000000000000:=by decide
 show Q (.int ((10:Int) ^ (18:Int).toNat)) H
 rw[e];exact h⟩
noncomputable abbrev RC:=List V->Hp->VK->Prop
def By:RC:=λxs H Q=>∃i,xs=[.int i]/\Q (.int (if i<0 then -i else i)) H
def vS:RC:=λxs H Q=>∃k,xs=[.bl k]/\Q (.int (if k then 1 else 0)) H
def vT:RC:=λxs H Q=>∃i j,xs=[.int i,.int j]/\Q (.int (if j<i then j else i)) H
def yJ(K:DU):RC:=λxs H Q=>∃p ys,xs=[.ref p]/\(SqL K H p ys\/SqT K H p ys)/\Q (.int ys.length) H
def Bz(K:DU):RC:=λxs H Q=>∃(p:Addr) (ns:List Int),xs=[.ref p]/\SqL K H p (ns.map Of)/\Q (.int ns.sum) H
def BA(K:DU):RC:=λxs H Q=>∃(p:Addr) (bs:List Bool),xs=[.ref p]/\SqL K H p (bs.map Og)/\Q (.bl (bs.all id)) H
def mi(K:DU):RC:=λxs H Q=>∃x t T b,xs=[x,.ty T]/\TyOf K H x t/\GR K t (.type T)=some b/\Q (.bl b) H
def lh(K:DU):RC:=λxs H Q=>∃p ys,xs=[.ref p]/\(SqL K H p ys\/SqT K H p ys)/\∀l,H l=none->Q (.ref l) (upd H l (.lst ys))
def jq(K:DU):RC:=λxs H Q=>∃p ys,xs=[.ref p]/\((SqL K H p ys/\∀l,H l=none->Q (.ref l) (upd H l (.tup ys)))\/(SqT K H p ys/\Q (.ref p) H))
section
variable{X:Cx}
theorem yK:cL X (.builtin "abs") By:=rO
theorem yL:cL X (.type "int") vS:=λpins s σ H xs us Q I r h=>oZ pins s σ H xs us Q I r (.inr h)
theorem yM (hc:X.calm=true):cL X (.builtin "min") vT:=oY hc
theorem yN:cL X (.builtin "len") (yJ X.K):=j6
theorem yO (hc:X.calm=true):cL X (.builtin "sum") (Bz X.K):=rY hc
theorem yP (hc:X.calm=true):cL X (.builtin "all") (BA X.K):=rZ hc
theorem yQ:cL X (.builtin "isinstance") (mi X.K):=r9
theorem vU:cL X (.type "list") (lh X.K):=j8
theorem sh:cL X (.type "tuple") (jq X.K):=ji
end
theorem CL{i:Int}(h:Q (.int (if i<0 then -i else i)) H):By [.int i] H Q:=⟨i,rfl,h⟩
theorem BB{k:Bool}(h:Q (.int (if k then 1 else 0)) H):vS [.bl k] H Q:=⟨k,rfl,h⟩
theorem CM{i j:Int}(h:Q (.int (if j<i then j else i)) H):vT [.int i,.int j] H Q:=⟨i,j,rfl,h⟩
theorem aL{p:Addr}(s:SqL K H p ys)(h:Q (.int ys.length) H):yJ K [.ref p] H Q:=⟨p,ys,rfl,.inl s,h⟩
theorem jr{p:Addr}(s:SqT K H p ys)(h:Q (.int ys.length) H):yJ K [.ref p] H Q:=⟨p,ys,rfl,.inr s,h⟩
theorem fY{p:Addr}{ns:List Int}(s:SqL K H p (ns.map Of))(h:Q (.int ns.sum) H):Bz K [.ref p] H Q:=⟨p,ns,rfl,s,h⟩
theorem uB{p:Addr}{bs:List Bool}(s:SqL K H p (bs.map Og))(h:Q (.bl (bs.all id)) H):BA K [.ref p] H Q:=⟨p,bs,rfl,s,h⟩
theorem Aq {i:Int}(h:Q (.bl true) H):mi K [.int i,.ty "int"] H Q:=⟨_,_,_,_,rfl,.int i,rfl,h⟩
theorem Ar {i:Int}(h:Q (.bl false) H):mi K [.int i,.ty "bool"] H Q:=⟨_,_,_,_,rfl,.int i,rfl,h⟩
theorem js {p:Addr}(s:H p=some (.tup xs)) (h:Q (.bl true) H):mi K [.ref p,.ty "tuple"] H Q:=⟨_,_,_,_,rfl,.tup s,rfl,h⟩
theorem jt {p:Addr}(s:H p=some (.lst xs)) (h:Q (.bl true) H):mi K [.ref p,.ty "list"] H Q:=⟨_,_,_,_,rfl,.lst s,rfl,h⟩
theorem gL{p:Addr}(s:SqL K H p ys\/SqT K H p ys)(h:∀l,H l=none->Q (.ref l) (upd H l (.lst ys))):lh K [.ref p] H Q:=⟨p,ys,rfl,s,h⟩
theorem df{p:Addr}(s:SqL K H p ys)(h:∀l,H l=none->Q (.ref l) (upd H l (.tup ys))):jq K [.ref p] H Q:=⟨p,ys,rfl,.inl ⟨s,h⟩⟩
theorem c6{r:Int}(h0:0<=r)(h1:r<xs.length):∃v,atI xs r=some v/\v∈xs:=by
 have hl:r.toNat<xs.length:=by lia
 have e:r=(r.toNat:Int):=by lia
 refine⟨xs[r.toNat],?_,D1 hl⟩;have:=bg (xs:=xs) (j:=r.toNat) (v:=xs[r.toNat]) (by simp[hl]);rw[<-e]at this;exact this
theorem CN {tb:TS}(h:wi σ H λJ H1=>∃W:Nat->Nat->St->Hp->Prop,(∃m,W 0 m σ H1)/\∀i m σ H,W i m σ H->
 (J.stop i H/\D.nx σ H)\/(J.go i H/\∃N:St->Hp->Prop,(∀σ' H',N σ' H'->∃m',m'<m/\W (i+1) m' σ' H')/\∀x H',J.yld i H x H'->g x σ H' λσ2 H2=>tb { D with nx:=N,ct:=N,bk:=D.nx } σ2 H2)):A3 wi g tb D σ H:=h
theorem BC{ta:TA}{R:It->Hp->Prop}(h:ta σ H λvs H1=>∃j:Int,vs=[.int j]/\-(2 ^ 62)<=j/\j<2 ^ 62/\R (Itr 0 j.toNat) H1):vz ta σ H R:=h
theorem As{R:It->Hp->Prop}(h:tl σ H λx H1=>∃a,x=.ref a/\(∃xs,SqL K H1 a xs)/\R (Itl K a) H1):vx K tl σ H R:=h
theorem BD{R:It->Hp->Prop}(h:tl σ H λx H1=>∃a,x=.ref a/\(∃xs,SqT K H1 a xs)/\R (Itt K a) H1):A2 K tl σ H R:=h
theorem Dt{A B:Prop}(h:B):if(!true)=true then A else B:=cH h
theorem Du{A B:Prop}(h:A):if(!false)=true then A else B:=jo h
theorem BE {te:TE}{tgs:List Str}{ix:List Nat}(h:wi σ H λJ H1=>
 ∃W:Nat->Nat->List V->St->Hp->Prop,(∃m,W 0 m [] (cQ tgs ix σ) H1)/\∀i m xs σc H,W i m xs σc H->xs.length<Ox/\
  ((J.stop i H/\∀p,H p=none->Q (.ref p) (upd H p (.lst xs)))\/(J.go i H/\∀x H',J.yld i H x H'->g x σc H' λσ2 H2=>te σ2 H2 λy H3=>∃m',m'<m/\W (i+1) m' (xs++[y]) σ2 H3))):lg wi g te tgs ix σ H Q:=h
theorem dvp(n b k:Nat):n / b ^ k / b=n / b ^ (k+1):=by rw[Nat.div_div_eq_div_mul,Im]
theorem si{pl:Nat}(hb:2<=b)(h:0<n / b ^ pl):2 ^ (pl+1)<=2*n+1:=by
 have h1:b ^ pl<=n:=(L7.mp h).2;have h2:2 ^ pl<=b ^ pl:=Nat.pow_le_pow_left hb pl;rw[Im];lia
end
structure QE (X:Cx) (e:Expr) (t:TE):Prop where
 out:PE X e t
structure QT (X:Cx) (e:Expr) (t:TT):Prop where
 out:PT X e t
structure QW (X:Cx) (e:Expr) (t:TT):Prop where
 out:PW X e t
structure QA (X:Cx) (es:List Expr) (t:TA):Prop where
 out:PA X es t
structure QO (X:Cx) (e:Option Expr) (t:TO):Prop where
 out:PO X e t
structure QI (X:Cx) (tg iter:Expr) (t:TI):Prop where
 out:PI X tg iter t
structure QG (X:Cx) (tg:Expr) (t:TG):Prop where
 out:PG X tg t
structure QGs (X:Cx) (ts:List Expr) (t:TGs):Prop where
 out:PGs X ts t
structure QS (X:Cx) (st:Stmt) (t:TS):Prop where
 out:PS X st t
structure QB (X:Cx) (sts:List Stmt) (t:TS):Prop where
 out:PSs X sts t
structure QOp (X:Cx) (f:Value->Value->Sem Value) (r:R2):Prop where
 out:OpR X f r
structure QUn (X:Cx) (f:Value->Sem Value) (r:V->Hp->VK->Prop):Prop where
 out:UnR X f r
structure QC (X:Cx) (f:Value) (r:List V->Hp->VK->Prop):Prop where
 out:cL X f r
structure QIx (X:Cx) (r:R2):Prop where
 out:IxR X r
structure QSl (X:Cx) (r:V->Option Int->Option Int->Hp->VK->Prop):Prop where
 out:SlR X r
noncomputable def CO:Expr->Bool
 | .Slice ..=>false
 | _=>true
theorem sj{b:Expr}(h:CO b=true):pk b:=by
 cases b<;>first|(intro _ _;rfl)|cases h
def CP(K:DU)(ta:TE):TT:=λσ H Q=>ta σ H λx H'=>∃k,xH K x H' k/\Q k H'
section
variable{X:Cx}{a b c e o:Expr}{es rest:List Expr}{ta tb tc te to ti:TE}{tA tB':TT}{t:TA}{pos p p2 apos cpos:Pos}{r r':R2}{x:Str}
theorem qv (i:Nat){x:Str}{pos:Pos}(hN:X.N[i]? = some x:=by rfl) (hv:Vis X.env.scope x:=by first | exact Fh rfl | exact IR (Fh rfl) | exact IR (IR rfl)) (hd:(x == ("__debug__" : Str))=false:=by decide)
  (hcd:(x == ("__classdict__" : Str))=false:=by decide):QE X (.Name x pos) (AM i):=⟨xT hN hv hd hcd⟩
theorem ao{i j pos}:QE X (.Constant (.int i) j pos) (tC (.int i)):=⟨uk⟩
theorem gM{b j pos}:QE X (.Constant (.bool b) j pos) (tC (.bl b)):=⟨AN⟩
theorem dA{j pos}:QE X (.Constant .none j pos) (tC .non):=⟨xU⟩
theorem bE{x j pos}:QE X (.Constant (.str x) j pos) (tC (.str x)):=⟨xV⟩
theorem aA (hg:Gl X x) (hm:X.mg x=none) (hv:bootBuiltins x=some u) (r:RelV v u) (hn:x≠"__name__":=by decide) (hd:(x == ("__debug__" : Str))=false:=by decide):QE X (.Name x pos) (tC v):=⟨ve hg hm hv r hn hd⟩
theorem aG{op:Operator}(ho:QOp X (ON op) r)(ha:QE X a ta)(hb:QE X b tb):QE X (.BinOp a op b pos) (tOp r ta tb):=⟨A5 ho.out ha.out hb.out⟩
theorem gg{op:UnaryOp}{r:V->Hp->VK->Prop}(ho:QUn X (unaryOp op) r)(ha:QE X a ta):QE X (.UnaryOp op a pos) (tUn r ta):=⟨yk ho.out ha.out⟩
theorem aQ{op:CmpOp}(ho:QOp X (OC op) r)(ha:QE X a ta)(hb:QE X b tb)(hm:Pa op b=false):QE X (.Compare a [op] [b] pos) (tOp r ta tb):=⟨vB ho.out ha.out hb.out hm⟩
theorem aD{op:CmpOp}(ho:QOp X (OC op) r)(ha:QE X a ta)(hb:QE X b tb)(hm:Pa op b=false):QT X (.Compare a [op] [b] pos) (vC (tOp r ta tb)):=⟨vD ho.out ha.out hb.out hm⟩
theorem cw{op}(h:QE X a ta):QE X (.BoolOp op [a] pos) ta:=⟨x6 h.out⟩
theorem bO(ha:QE X a ta)(hb:QE X (.BoolOp .And (b::rest) pos) tb):QE X (.BoolOp .And (a::b::rest) pos) (vg ta tb):=⟨x8 ha.out hb.out⟩
theorem iP(ha:QE X a ta):QE X (.UnaryOp .Not a pos) (vh ta):=⟨ya ha.out⟩
theorem fZ(ha:QT X a tA):QT X (.UnaryOp .Not a pos) (AQ tA):=⟨xZ ha.out⟩
theorem bB(h:QE X a ta)(he:∀whole,isTrue a X.env whole=(do let v <-whole;standAt a.pos;OR [v] (truthy v)):=by intro _;rfl):QT X a (tB ta):=⟨xW h.out he⟩
theorem gv{K:DU}(h:QE X a ta)(he:∀whole,isTrue a X.env whole=(do let v <-whole;standAt a.pos;OR [v] (truthy v)):=by intro _;rfl)(hK:X.K=K:=by rfl):QT X a (CP K ta):=by subst hK;exact⟨rN h.out he⟩
theorem gN(ha:QT X a tA):QW X (.BoolOp .And [a] pos) tA:=⟨vf ha.out⟩
theorem eY(ha:QT X a tA):QW X (.BoolOp .Or [a] pos) tA:=⟨xX ha.out⟩
theorem kc(ha:QT X a tA)(hb:QW X (.BoolOp .And (b::rest) pos) tB'):QW X (.BoolOp .And (a::b::rest) pos) (AO tA tB'):=⟨xY ha.out hb.out⟩
theorem gO(ha:QT X a tA)(hb:QW X (.BoolOp .Or (b::rest) pos) tB'):QW X (.BoolOp .Or (a::b::rest) pos) (tOr tA tB'):=⟨AR ha.out hb.out⟩
theorem QW.qt(h:QW X e tA):QT X e tA:=⟨h.out.pt⟩
theorem sk(hc:QT X c tA)(ha:QE X a ta)(hb:QE X b tb):QE X (.IfExp c a b pos) (tIf tA ta tb):=⟨rE hc.out ha.out hb.out⟩
theorem ae:QA X [] Am:=⟨yt⟩
theorem ai(ha:QE X e te)(hr:QA X es t)(hn:bS e=true:=by rfl):QA X (e::es) (nH te t):=⟨Di ha.out hr.out hn⟩
theorem bo(h:QA X es t):QE X (.List es pos) (Bf t):=⟨yw h.out⟩
theorem ba{x1}(h:QA X es t):QE X (.Tuple es x1 pos) (Be t):=⟨yu h.out⟩
theorem aR(hr:QIx X r)(ha:QE X a ta)(hb:QE X b tb)(hs:CO b=true:=by rfl):QE X (.Subscript a b pos) (tOp r ta tb):=⟨Bh hr.out ha.out hb.out (sj hs)⟩
theorem pI:QO X none kZ:=⟨vJ⟩
theorem bT(h:QE X e te):QO X (some e) (vI te):=⟨vK h.out⟩
theorem cG{r:V->Option Int->Option Int->Hp->VK->Prop}{lo hi:Option Expr}{tl th:TO}(hr:QSl X r)(he:QE X e te)(hl:QO X lo tl)(hu:QO X hi th):QE X (.Subscript e (.Slice lo hi none p2) pos) (tSl r te tl th):=⟨rT hr.out he.out hl.out hu.out⟩
theorem ag {id:String}{r:RC}(hc:QC X (.builtin id) r) (hg:Gl X x) (hm:X.mg x=none) (hv:bootBuiltins x=some (.builtin id)) (ha:QA X (e::es) t) (hn:(e::es).all bS=true:=by rfl) (hn2:x≠"__name__":=by decide) (hdb:(x == ("__debug__" : Str))=false:=by decide) :
  QE X (.Call (.Name x p) (e::es) [] pos) (tCB r t):=⟨pH hc.out hg hm hv ha.out hn hn2 hdb⟩
theorem aT {T:String}{r:RC}(hc:QC X (.type T) r) (hg:Gl X x) (hm:X.mg x=none) (hv:bootBuiltins x=some (.type T)) (ha:QA X (e::es) t) (hn:(e::es).all bS=true:=by rfl) (hn2:x≠"__name__":=by decide) (hdb:(x == ("__debug__" : Str))=false:=by decide) :
  QE X (.Call (.Name x p) (e::es) [] pos) (tCB r t):=⟨nU hc.out hg hm hv ha.out hn hn2 hdb⟩
theorem lj{CX:CXT}{k:Nat}{f:Addr}{fd:FuncData}{ps:List Str}{sp:Sp}{E:XK}(F:FnOk X.prog X.w X.K X.mg X.base CX k f fd ps sp)(hr:Room k X.A)(hg:Gl X x)(hm:X.mg x=some (.ref f))(hk:Gu X.K (.ref f)=true)(hb:Binds X.K fd ps [])(hx:iN CX X E)
  (ha:QA X (e::es) t) (hn:(e::es).all bS=true:=by rfl) (hdb:(x == ("__debug__" : Str))=false:=by decide):QE X (.Call (.Name x p) (e::es) [] pos) (o9 sp [] E t):=⟨sf F hr hg hm hk hb hx ha.out hn hdb⟩
theorem bL {K:DU}(ho:QE X o to) (ha:QA X [e] t) (hbase:attributeBase o ("append" : Str) X.env (eval o X.env)=eval o X.env:=by rfl) (hline:(apos.endLine == cpos.line)=true:=by rfl) (hn:bS e=true:=by rfl) (hK:X.K=K:=by rfl) :
  QE X (.Call (.Attribute o "append" apos) [e] [] cpos) (tBM K "list" k7 to t):=by subst hK;exact⟨mf FI PySem.F.slot_list_append PySem.F.type_list_append pq ho.out ha.out hbase hline hn⟩
variable{tg iter:Expr}{wi:TI}{g:TG}{i:Nat}{u:TGs}
theorem cR {p pos:Pos}(hg:Gl X "range") (hm:X.mg "range" = none) (ha:QA X [a] t) (hn:bS a=true:=by rfl):QI X tg (.Call (.Name "range" p) [a] [] pos) (vz t):=⟨oR hg hm ha.out (aM hn)⟩
theorem aS{K:DU}(hl:QE X e te)(hK:X.K=K:=by rfl):QI X tg e (vx K te):=by subst hK;exact⟨vy hl.out⟩
theorem iQ{K:DU}(hl:QE X e te)(hK:X.K=K:=by rfl):QI X tg e (A2 K te):=by subst hK;exact⟨yi hl.out⟩
theorem vV(hN:X.N.Nodup)(hi:X.N[i]? = some x)(hx:Loc X.env.scope x)(hf:X.fn x=true\/X.env.scope.names.lookup x=some .local:=by first|exact .inl rfl|exact .inr rfl|assumption):QG X (.Name x pos) (dk i):=⟨vt hN hi hx hf⟩
theorem aY:QGs X [] yc:=⟨vv⟩
theorem av{ts:List Expr}(h1:QG X e g)(h2:QGs X ts u)(hs:(OJ (e::ts) X.env).map (·.2)=assign e X.env::(OJ ts X.env).map (·.2):=by rfl):QGs X (e::ts) (je g u):=⟨rH h1.out h2.out hs⟩
theorem bM{K:DU}{ts:List Expr}{k:Nat}(hc:X.calm=true)(h:QGs X ts u)(hn:(OJ ts X.env).length=n:=by rfl)(hst:(OJ ts X.env).findIdx? (·.1)=none:=by rfl)(hK:X.K=K:=by rfl):QG X (.Tuple ts k pos) (Aj K n u):=by subst hK;exact⟨yd hc h.out hn hst⟩
variable{st:Stmt}{sts s1 s2:List Stmt}{T1 T2:TS}
theorem aK:QB X [] vi:=⟨vj⟩
theorem af(h1:QS X st T1)(h2:QB X sts T2):QB X (st::sts) (AS T1 T2):=⟨rF h1.out h2.out⟩
theorem aq(h1:QS X st T1):QB X [st] T1:=⟨vm h1.out⟩
theorem ax(he:QE X e te):QS X (.Return (some e) pos) (AU te):=⟨yb he.out⟩
theorem cm:QS X st um:=⟨rG⟩
theorem bN(he:QE X e te)(hs:OY e none pos.line X.env=pure false:=by rfl):QS X (.Expr e pos) (vo te):=⟨vp he.out hs⟩
theorem aV(hc:QT X c tA)(ha:QB X s1 T1)(hb:QB X s2 T2):QS X (.If c s1 s2 pos) (AV tA T1 T2):=⟨AW hc.out ha.out hb.out⟩
theorem yR(hN:X.N.Nodup)(hi:X.N[i]? = some x)(hx:Loc X.env.scope x)(he:QE X e te)(hs:OY e (some (.Name x pos')) pos.line X.env=pure false:=by rfl)(hf:X.fn x=true\/X.env.scope.names.lookup x=some .local:=by first|exact .inl rfl|exact .inr rfl|assumption):
  QS X (.Assign [.Name x pos'] e pos) (nC te (dk i)):=⟨yf hN hi hx he.out hs hf⟩
theorem f7{tpos:Pos}(he:QE X e te)(ho:QE X o to)(hi:QE X b tb)
  (ha:∀v,assign (.Subscript o b tpos) X.env v=(do
   let ov <-OR [v] (eval o X.env)
   let iv <-OR [v,ov] (eval b X.env)
   standAt tpos
   OR [v,ov,iv] (setItem ov iv v)
   release [v,ov,iv] []):=by intro _;rfl)
  (hs:O8 [.Subscript o b tpos] e pos.line X.env=pure false:=by rfl) (hw:O9 [.Subscript o b tpos] e X.env=pure none:=by rfl)
  (h1:(OJ [.Subscript o b tpos] X.env).map (·.2)=[assign (.Subscript o b tpos) X.env]:=by rfl):QS X (.Assign [.Subscript o b tpos] e pos) (nC te (AY to tb nM)):=⟨oO he.out (ye ho.out hi.out jg ha) hs hw h1⟩
theorem f9{op:Operator}{ti:R2}(hN:X.N.Nodup)(hi:X.N[i]? = some x)(hx:Loc X.env.scope x)(he:QE X e te)(ho:QOp X (inplaceOp op) ti)(hf:X.fn x=true\/X.env.scope.names.lookup x=some .local:=by first|exact .inl rfl|exact .inr rfl|assumption):
  QS X (.AugAssign (.Name x pos') op e pos) (A0 i te ti):=⟨yh hN hi hx he.out ho.out hf⟩
theorem mj{i:Nat}{x y:Str}{a b:Expr}{ta:TA}{px pt:Pos}{kt k2 pt2}(hc:X.calm=true)(hN:X.N.Nodup)(hi:X.N[i]? = some x)(hj:X.N[j]? = some y)(hij:i≠j)
  (hx:X.env.scope.names.lookup x=some .local) (hy:X.env.scope.names.lookup y=some .local) (ha:QA X [a,b] ta)
  (hw:O9 [.Tuple [.Name x px,.Name y py] kt pt] (.Tuple [a,b] k2 pt2) X.env=pure (some [x,y]):=by rfl)
  (hs:O8 [.Tuple [.Name x px,.Name y py] kt pt] (.Tuple [a,b] k2 pt2) pos.line X.env=pure false:=by rfl) :
  QS X (.Assign [.Tuple [.Name x px,.Name y py] kt pt] (.Tuple [a,b] k2 pt2) pos) (AZ i j ta):=⟨yg hc hN hi hj hij hx hy ha.out hw hs⟩
theorem cX(hp:PassesOwn (model X.prog X.w) X.A X.env X.xe)(hc:QT X c tA)(hb:QB X sts T1):QS X (.While c sts [] pos) (uq tA T1):=⟨rK hp hc.out hb.out⟩
theorem cf(hp:PassesOwn (model X.prog X.w) X.A X.env X.xe)(hc:X.calm=true)(hi:QI X tg iter wi)(hg:QG X tg g)(hb:QB X sts T1)(hs:∀x,Oz iter X.env x=pure x:=by intro _;rfl):QS X (.For tg iter sts [] pos) (A3 wi g T1):=⟨yj hp hc hi.out hg.out hb.out hs⟩
theorem bj{N tgs frs:List Str}{ix:List Nat}{cl:List (Str×Addr)}(c:CompOk X N tgs frs ix scope cl)(hc:X.calm=true)(hi:QI X tg iter wi)
  (hg:∀fp C s H,QG (bc X N scope cl fp C s H) tg g) (he:∀fp C s H,QE (bc X N scope cl fp C s H) elt te)
  (hs:∀x,Oz iter X.env x=pure x:=by intro _;rfl) :
  QE X (.ListComp elt [⟨tg,iter,[],0⟩] scope pos) (lg wi g te tgs ix):=⟨vO c hc hi.out (λfp C s H=>(hg fp C s H).out) (λfp C s H=>(he fp C s H).out) hs⟩
theorem cI:QOp X (ON .Add) (rI0 λi j=>.int (i+j)):=⟨yl⟩
theorem cW:QOp X (ON .Sub) (rI0 λi j=>.int (i - j)):=⟨ym⟩
theorem dG:QOp X (ON .Mult) (rI CMul λi j=>.int (i*j)):=⟨yn⟩
theorem dq:QOp X (ON .FloorDiv) (rI pF λi j=>.int (i / j)):=⟨rX⟩
theorem fN:QOp X (ON .Mod) (rI (λ_ j=>0<j) λi j=>.int (i % j)):=⟨yo⟩
theorem nV:QOp X (ON .Pow) (rI Ak λi j=>.int (i ^ j.toNat)):=⟨yp⟩
theorem BF:QOp X (ON .Add) Cw:=⟨yE⟩
theorem sq:QOp X (ON .Mult) Cy:=⟨yF⟩
theorem dD:QOp X (OC .Eq) rEq:=⟨A9⟩
theorem xI:QOp X (OC .NotEq) rNe:=⟨Ba⟩
theorem oG:QOp X (OC .Lt) (rI0 λi j=>.bl (decide (i<j))):=⟨Bb⟩
theorem rA:QOp X (OC .Gt) (rI0 λi j=>.bl (decide (j<i))):=⟨Bc⟩
theorem CQ:QOp X (OC .GtE) (rI0 λi j=>.bl (decide (j<=i))):=⟨Bd⟩
theorem iR:QOp X (inplaceOp .Add) (rI0 λi j=>.int (i+j)):=⟨vA⟩
theorem pJ:QOp X (inplaceOp .FloorDiv) (rI A8 λi j=>.int (i / j)):=⟨rM⟩
theorem gh:QUn X (unaryOp .USub) (rU λi=>.int (-i)):=⟨ur⟩
theorem bx{K:DU}(hK:X.K=K:=by rfl):QIx X (yz K):=by subst hK;exact⟨ix_list⟩
theorem eZ{K:DU}(hK:X.K=K:=by rfl):QIx X (yA K):=by subst hK;exact⟨ix_tup⟩
theorem ke{K:DU}(hK:X.K=K:=by rfl):QSl X (An K):=by subst hK;exact⟨vL⟩
theorem pK:QC X (.builtin "abs") By:=⟨yK⟩
theorem mn:QC X (.type "int") vS:=⟨yL⟩
theorem uC (hc:X.calm=true):QC X (.builtin "min") vT:=⟨yM hc⟩
theorem aU {K:DU}(hK:X.K=K:=by rfl):QC X (.builtin "len") (yJ K):=by subst hK;exact⟨yN⟩
theorem gP {K:DU}(hc:X.calm=true) (hK:X.K=K:=by rfl):QC X (.builtin "sum") (Bz K):=by subst hK;exact⟨yO hc⟩
theorem uD {K:DU}(hc:X.calm=true) (hK:X.K=K:=by rfl):QC X (.builtin "all") (BA K):=by subst hK;exact⟨yP hc⟩
theorem aN {K:DU}(hK:X.K=K:=by rfl):QC X (.builtin "isinstance") (mi K):=by subst hK;exact⟨yQ⟩
theorem ll {K:DU}(hK:X.K=K:=by rfl):QC X (.type "list") (lh K):=by subst hK;exact⟨vU⟩
theorem bY {K:DU}(hK:X.K=K:=by rfl):QC X (.type "tuple") (jq K):=by subst hK;exact⟨sh⟩
end
section
variable{P:Program}{w:World}{K:DU}{mg:Str->Option Value}{base:Heap}
theorem Fun.okQ{st:Stmt}{f:Addr}{fd:FuncData}{N ps:List Str}{k:Nat}{sp:Sp}(F:Fun K x qual st f fd)(S:FnScope N ps (bI st))(len:∀vs H Q E,sp vs H Q E->vs.length=ps.length)
  (hbody:∀(cdv:Value) (A:Around) (outer:List Env) (s:Shared) (H:Hp) (vs:List V) (Q:VK) (E:XK),Room k (A.deeper (envOfC qual (bI st) s.heap.objs.size f cdv))->sp vs H Q E->
   ∃t,QB (uw CX0 P w K mg base N qual (bI st) f cdv A outer s H E).nox (cZ st) t/\t { nx:=λ_ H'=>Q .non H',rt:=Q } (start N vs) H):FnOk P w K mg base CX0 (k+1) f fd ps sp:=
 F.ok S len λcdv A outer s H vs Q E hr hsp=>by
  obtain⟨t,h,q⟩:=hbody cdv A outer s H vs Q E hr hsp;exact⟨t,h.out,q⟩
end
def BG(K:DU)(te:TE):TE:=λσ H Q=>te σ H λx H1=>∃a xs,x=.ref a/\SqL K H1 a xs/\∀p,H1 p=none->Q (.ref p) (upd H1 p (.lst xs.reverse))
section
variable{X:Cx}{e:Expr}{te:TE}{pos p1 p2 p3:Pos}{j:Nat}
theorem yS(he:PE X e te):PE X (.Subscript e (.Slice none none (some (.UnaryOp .USub (.Constant (.int 1) j p1) p2)) p3) pos) (BG X.K te):=by
 intro pins s σ H Q I h;refine Subscript_ (thn (he pins s σ H _ I h) λv s1 ⟨x,H1,I1,r1,q1⟩=>?_);obtain⟨a,xs,rfl,hx,q⟩:=q1;cases r1;refine wpAny_Slice (evalPart_none_step (evalPart_none_step (evalPart_some_step ?_)));refine thn (yk (X:=X) ur uk pins s1 σ H1 (λx H'=>x=.int (-1)/\H'=H1) I1 ⟨1,rfl,rfl,rfl⟩) λvk s2 ⟨y,H2,I2,r2,e2,e3⟩=>?_
 subst e2 e3;obtain⟨t,rfl⟩:=r2;have I4:Inv X pins σ H2 { s2 with heap:=s2.heap.push { cls:=.type "slice",data:=.fields #[.none,.none,.int (-1) t] } }:=I2.kept (t':=s2.toks) λb ob q=>DV _ q
 obtain⟨its,r,ht,hz⟩:=I4.list hx;have hlen:=r.length;show wpAny (model X.prog X.w) X.A (subscriptTail e (.Slice none none (some (.UnaryOp .USub (.Constant (.int 1) j p1) p2)) p3) (.ref a) (.ref s2.heap.objs.size)) (EP X pins σ Q) X.xe { s2 with heap:=s2.heap.push { cls:=.type "slice",data:=.fields #[.none,.none,.int (-1) t] } }
 refine tail_any (ops:=[.ref a,.ref s2.heap.objs.size]) ht.isList.typeIs slot_list_getitem.lookup ?_ (by with_unfolding_all rfl);refine wpAny_getItem_list_slice ht.isList (IM ..) .none .none (.int (-1) t) (by decide) ?_ (by rw[D9];lia);rw[PySem.W.krv_pick];refine⟨.ref _,_,I4.laid (t':=s2.toks) (o:=.lst xs.reverse) (λb ob q=>DV _ q) (DY _) ?_,rfl,q _ (I4.hok.fresh (DY _))⟩;exact⟨by rw[F3];exact hz,its.reverse,0,r.reverse,Ea _ rfl⟩
theorem uE{K:DU}(he:QE X e te)(hK:X.K=K:=by rfl):QE X (.Subscript e (.Slice none none (some (.UnaryOp .USub (.Constant (.int 1) j p1) p2)) p3) pos) (BG K te):=by subst hK;exact⟨yS he.out⟩
end
theorem gQ(ns ms:List Int):((DZ (min ns.length ms.length)).all (λi=>ns.getD i 0 == ms.getD i 0) && ns.length == ms.length)=decide (ns=ms):=by
 rw[GH,EH,FM,decide_eq_true_iff,beq_iff_eq];constructor
 ·rintro⟨h,hl⟩
  apply GX hl;intro i h1 h2;have:=h i (by simp;lia);simpa [h1,h2]using this
 ·rintro rfl
  exact⟨λi _=>by simp,rfl⟩
section
variable{X:Cx}
theorem uF{ns:List Int}(rv:Vals (ns.map Of) its)(h:i<its.toArray.size):∃t,its.toArray[i]=.int (ns.getD i 0) t:=by
 have hl:=rv.length;have h':i<ns.length:=by simp at hl h;lia
 obtain⟨u,e,ru⟩:=rv.get (i:=i) (x:=Of ns[i]) (by simp[h']);obtain⟨t,rfl⟩:=ru;refine⟨t,?_⟩;have e2:its.toArray[i]? = some (.int ns[i] t):=by simpa using e
 have e3:its.toArray[i]=.int ns[i] t:=by
  have:=(Array.getElem?_eq_some_iff.mp e2).2;exact this
 rw[e3];simp[h']
theorem kf{A:Around}{s:Shared}{ns:List Int}{its2:List Value}(r1:Vals (ns.map Of) its)(r2:Vals (ms.map Of) its2)(j:Nat)(h1:j<its.toArray.size)(h2:j<its2.toArray.size):
  NG A s its.toArray[j] its2.toArray[j] (ns.getD j 0 == ms.getD j 0):=by
 obtain⟨t,e⟩:=uF r1 h1;obtain⟨u,e'⟩:=uF r2 h2;rw[e,e'];exact KY _ _ _ _
def CS(K:DU):R2:=λx y H Q=>∃(a b:Addr) (ns ms:List Int),x=.ref a/\y=.ref b/\SqT K H a (ns.map Of)/\SqT K H b (ms.map Of)/\Q (.bl (decide (ns=ms))) H
theorem yT(hu:X.A.units<cLine):OpR X (OC .Eq) (CS X.K):=by
 intro pins s σ H x y v u Q I rx ry h;obtain⟨a,b,ns,ms,rfl,rfl,ha,hb,q⟩:=h;cases rx;cases ry;obtain⟨its,r1,p1,z1⟩:=I.tuple ha;obtain⟨its2,r2,p2,z2⟩:=I.tuple hb;refine NX (e:=λi=>ns.getD i 0 == ms.getD i 0) p1 p2 hu (λj h1 h2=>kf r1 r2 j h1 h2) X.prog X.w X.xe _ ?_;have l1:its.toArray.size=ns.length:=by have:=r1.length;simp at this;simp[this]
 have l2:its2.toArray.size=ms.length:=by have:=r2.length;simp at this;simp[this]
 rw[l1,l2,gQ];exact⟨.bl _,H,I,rfl,q⟩
theorem vW{K:DU}(hu:X.A.units<cLine)(hK:X.K=K:=by rfl):QOp X (OC .Eq) (CS K):=by subst hK;exact⟨yT hu⟩
end
section
variable{K:DU}{σ:St}{H:Hp}{Q:VK}{D:Ends}
theorem CT{te:TE}(h:te σ H λx H1=>∃a xs,x=.ref a/\SqL K H1 a xs/\∀p,H1 p=none->Q (.ref p) (upd H1 p (.lst xs.reverse))):BG K te σ H Q:=h
theorem BH(h:ta σ H λx H1=>tb σ H1 λy H2=>(λx y=>∃v w,[x,y]=[v,w]/\D.nx ((σ.set i (some v)).set j (some w)) H2) x y):AZ i j (nH ta (nH tb Am)) D σ H:=h
theorem vX{x:V}{R:V->V->Prop}(h:R x y):∃v w,[x,y]=[v,w]/\R v w:=⟨x,y,rfl,h⟩
theorem Dv{r:V->List V->Hp->VK->Prop}{t:TA}{T:String}(h:to σ H λx H1=>tyV K T x H1/\t σ H1 λxs H2=>r x xs H2 Q):tBM K T r to t σ H Q:=h
theorem aZ(s:H l=some (.lst xs))(z:xs.length<Ox)(h:Q .non (upd H l (.lst (xs++[y])))):k7 (.ref l) [y] H Q:=⟨l,xs,y,rfl,rfl,s,z,h⟩
theorem bq (h:H l=some (.lst xs)):tyV K "list" (.ref l) H:=.inl ⟨rfl,_,Od h⟩
theorem Same.tup{H1:Hp}{a:Addr}{xs:List V}(e:Same H H1)(h:SqT K H a xs):SqT K H1 a xs:=by
 rcases h with(h|⟨o,h⟩)|h
 ·exact .inl (.inl (e _ _ h))
 ·exact .inl (.inr ⟨o,e _ _ h⟩)
 ·exact .inr h
theorem Same.new{p:Addr}(e:Same H H1)(h:H1 p=none):Same H (upd H1 p o):=λb u q=>by rw[aB (ay (e b u q) h)];exact e b u q
theorem Same.own{p:Addr}(e:Same H H1)(h:H p=none):Same H (upd H1 p o):=λb u q=>by rw[aB (ay q h)];exact e b u q
end
def Nx(n i:Nat)(P:Prop):Prop:=∃m',m'<n - i/\m'=n - (i+1)/\i+1<=n/\P
theorem Nx.mk{P:Prop}(h:i<n)(p:P):Nx n i P:=⟨n - (i+1),by lia,rfl,h,p⟩
section
variable{K:DU}{H:Hp}{g:TG}{te:TE}{σ0:St}{R:List V->Hp->Prop}
theorem ju(Pv:Nat->List V->St->Hp->Prop)(hz:n<Ox)(hl:∀i ys σ H,Pv i ys σ H->ys.length=i)(h0:Pv 0 [] σ0 H)
  (hs:∀i ys σ H,i<n->Pv i ys σ H->g (.int (0+i)) σ H λσ2 H2=>te σ2 H2 λy H3=>Nx n i (Pv (i+1) (ys++[y]) σ2 H3)) (hd:∀ys σ H,Pv n ys σ H->R ys H) :
  ∃W:Nat->Nat->List V->St->Hp->Prop,(∃m,W 0 m [] σ0 H)/\∀i m xs σc H,W i m xs σc H->xs.length<Ox/\
  (((Itr 0 n).stop i H/\R xs H)\/((Itr 0 n).go i H/\∀x H',(Itr 0 n).yld i H x H'->g x σc H' λσ2 H2=>te σ2 H2 λy H3=>∃m',m'<m/\W (i+1) m' (xs++[y]) σ2 H3)):=by
 refine⟨λi m xs σ H=>m=n - i/\i<=n/\Pv i xs σ H,⟨n,by simp,Ec _,h0⟩,?_⟩;rintro i m xs σ H ⟨rfl,hi,p⟩;refine⟨by rw[hl i xs σ H p];exact E4 hi hz,?_⟩;by_cases hlt:i<n
 ·refine .inr ⟨hlt,λx H' y=>?_⟩
  obtain⟨e,y⟩:=y;subst e y;exact hs i xs σ _ hlt p
 ·have e:i=n:=by lia
  subst e;exact .inl ⟨DY _,hd xs σ H p⟩
theorem fc(Pv:Nat->List V->St->Hp->Prop)(hz:vs.length<Ox)(hl:∀i ys σ H,Pv i ys σ H->ys.length=i)(ht:∀i ys σ H,Pv i ys σ H->SqT K H a vs)(h0:Pv 0 [] σ0 H)
  (hs:∀i ys σ H x,vs[i]? = some x->Pv i ys σ H->g x σ H λσ2 H2=>te σ2 H2 λy H3=>Nx vs.length i (Pv (i+1) (ys++[y]) σ2 H3)) (hd:∀ys σ H,Pv vs.length ys σ H->R ys H) :
  ∃W:Nat->Nat->List V->St->Hp->Prop,(∃m,W 0 m [] σ0 H)/\∀i m xs σc H,W i m xs σc H->xs.length<Ox/\
  (((Itt K a).stop i H/\R xs H)\/((Itt K a).go i H/\∀x H',(Itt K a).yld i H x H'->g x σc H' λσ2 H2=>te σ2 H2 λy H3=>∃m',m'<m/\W (i+1) m' (xs++[y]) σ2 H3)):=by
 refine⟨λi m xs σ H=>m=vs.length - i/\i<=vs.length/\Pv i xs σ H,⟨vs.length,by simp,Ec _,h0⟩,?_⟩;rintro i m xs σ H ⟨rfl,hi,p⟩;have q:=ht i xs σ H p;refine⟨by rw[hl i xs σ H p];exact E4 hi hz,?_⟩;by_cases hlt:i<vs.length
 ·refine .inr ⟨⟨vs,vs[i],q,by simp[hlt]⟩,λx H' y=>?_⟩
  obtain⟨e,y⟩:=y;subst e;exact hs i xs σ _ x (y vs q) p
 ·have e:i=vs.length:=by lia
  subst e;exact .inl ⟨⟨vs,q,DY _⟩,hd xs σ H p⟩
theorem bf(Pv:Nat->List V->St->Hp->Prop)(hz:vs.length<Ox)(hl:∀i ys σ H,Pv i ys σ H->ys.length=i)(ht:∀i ys σ H,Pv i ys σ H->SqL K H a vs)(h0:Pv 0 [] σ0 H)
  (hs:∀i ys σ H x,vs[i]? = some x->Pv i ys σ H->g x σ H λσ2 H2=>te σ2 H2 λy H3=>Nx vs.length i (Pv (i+1) (ys++[y]) σ2 H3)) (hd:∀ys σ H,Pv vs.length ys σ H->R ys H) :
  ∃W:Nat->Nat->List V->St->Hp->Prop,(∃m,W 0 m [] σ0 H)/\∀i m xs σc H,W i m xs σc H->xs.length<Ox/\
  (((Itl K a).stop i H/\R xs H)\/((Itl K a).go i H/\∀x H',(Itl K a).yld i H x H'->g x σc H' λσ2 H2=>te σ2 H2 λy H3=>∃m',m'<m/\W (i+1) m' (xs++[y]) σ2 H3)):=by
 refine⟨λi m xs σ H=>m=vs.length - i/\i<=vs.length/\Pv i xs σ H,⟨vs.length,by simp,Ec _,h0⟩,?_⟩;rintro i m xs σ H ⟨rfl,hi,p⟩;have q:=ht i xs σ H p;refine⟨by rw[hl i xs σ H p];exact E4 hi hz,?_⟩;by_cases hlt:i<vs.length
 ·refine .inr ⟨⟨vs,vs[i],q,by simp[hlt]⟩,λx H' y=>?_⟩
  obtain⟨e,y⟩:=y;subst e;exact hs i xs σ _ x (y vs q) p
 ·have e:i=vs.length:=by lia
  subst e;exact .inl ⟨⟨vs,q,DY _⟩,hd xs σ H p⟩
end
noncomputable def dg(n b m:Nat):List Int:=(DZ m).map λj=>((n / b ^ (m - 1 - j) % b:Nat):Int)
theorem yU(n b m:Nat):((DZ m).map λj=>Of ((n / b ^ j % b:Nat):Int)).reverse=(dg n b m).map Of:=by
 unfold dg;rw[<-HS,<-PySem.W.krv_range,ED,ED];rfl
section
variable{X:Cx}{N tgs frs:List Str}{ix:List Nat}{scope:Scope}{cl:List (Str×Addr)}
theorem vY{y:Str}{te:TE}(hN:X.N.Nodup)(hy:X.N[iy]? = some y)(hx:Loc X.env.scope y)(c:CompOk X N tgs frs ix scope cl)(hc:X.calm=true)(hi:PI X tg iter wi)
  (hg:∀fp C s H,PG (bc X N scope cl fp C s H) tg g) (he:∀fp C s H,PE (bc X N scope cl fp C s H) elt te)
  (hs:∀x,Oz iter X.env x=pure x:=by intro _;rfl)
  (hsw:OY (.ListComp elt [⟨tg,iter,[],0⟩] scope pos) (some (.Name y py)) spos.line X.env=pure true:=by rfl)
  (hf:X.fn y=true\/X.env.scope.names.lookup y=some .local:=by first|exact .inl rfl|exact .inr rfl|assumption) :
  PS X (.Assign [.Name y py] (.ListComp elt [⟨tg,iter,[],0⟩] scope pos) spos) (nC (lg wi g te tgs ix) (dk iy)):=pE (oc:=none) (tb:=tbE te) hN hy hx c hc hi hg (λfp C s H=>.no (he fp C s H)) hs hsw hf
theorem gR{y:Str}{te:TE}(hN:X.N.Nodup)(hy:X.N[i]? = some y)(hx:Loc X.env.scope y)(c:CompOk X N tgs frs ix scope cl)(hc:X.calm=true)(hi:QI X tg iter wi)
  (hg:∀fp C s H,QG (bc X N scope cl fp C s H) tg g) (he:∀fp C s H,QE (bc X N scope cl fp C s H) elt te)
  (hs:∀x,Oz iter X.env x=pure x:=by intro _;rfl)
  (hsw:OY (.ListComp elt [⟨tg,iter,[],0⟩] scope pos) (some (.Name y py)) spos.line X.env=pure true:=by rfl)
  (hf:X.fn y=true\/X.env.scope.names.lookup y=some .local:=by first|exact .inl rfl|exact .inr rfl|assumption) :
  QS X (.Assign [.Name y py] (.ListComp elt [⟨tg,iter,[],0⟩] scope pos) spos) (nC (lg wi g te tgs ix) (dk i)):=
 ⟨vY hN hy hx c hc hi.out (λfp C s H=>(hg fp C s H).out) (λfp C s H=>(he fp C s H).out) hs hsw hf⟩
end
section
variable{prog:Program}{w:World}{A:Around}{E:Value->Shared->Prop}{s:Shared}
theorem mq{it l:Addr}{items:Array Value}(hne:l≠it):∀(n i:Nat) (s:Shared) (Q:List Value->Shared->Prop),s.heap.IsListIter it l i->s.heap.IsList l items->i+n<=items.size->
  (∀h',h'.IsListIter it l (i+n)->FK it s.heap h'->Q ((items.toList.drop i).take n) { s with heap:=h' })->wpAny (model prog w) A (draw (.ref it) n) Q E s
 | 0,i,s,Q,hit,_,_,hQ=>by
  show wpAny _ _ (pure []) Q E s
  exact Ow (by simpa using hQ s.heap hit (Lo ..))
 | n+1,i,s,Q,hit,ht,hle,hQ=>by
  have hlt:i<items.size:=by lia
  show wpAny _ _ (pyNext (.ref it) >>= _) Q E s
  refine Ov (wpAny_pyNext_list_item hit ht (x:=items[i]) (by simp[hlt]) λh1 hit1 hs1=>?_);refine Ov (Oy (mq hne n (i+1) _ _ hit1 (ht.extBut hs1.extBut hne) ⋯ λh2 hit2 hs2=>Ow ?_));have hd:items.toList.drop i=items[i]::items.toList.drop (i+1):=by simp[Gq,hlt]
  have:=hQ h2 (by rw[show i+(n+1)=i+1+n by lia];exact hit2) (hs1.trans hs2);rw[hd,GD]at this;exact this
theorem gS{Q:List Value->Shared->Prop}(hh:A.handled=none)(ht:s.heap.IsList l items)
  (hQ:∀h',Kb s.heap.objs.size s.heap h'->Q items.toList { s with heap:=h' }):wpAny (model prog w) A (unpackItems (.ref l) items.size none) Q E s:=by
 have hlt:l≠s.heap.objs.size:=by obtain⟨o,ho,_⟩:=ht;exact Eh (D2 ho)
 unfold unpackItems;refine Ov ?_
 ·unfold notIterableAtAll
  refine Ov (wpAny_specialOf ht.typeIs slot_list_iter.lookup ?_);refine Ow ?_;simp only[ER,if_false];refine Ov (Oy (O5 ht ?_));refine Ov (Oy (mq hlt items.size 0 _ _ ⟨_,Ea _ rfl,rfl,rfl⟩ (ht.at λo e=>DV _ e) ⋯ λh1 hit1 hs1=>?_));have hall:List.take items.size (List.drop 0 items.toList)=items.toList:=by
   rw[EB];exact DW (by simp)
  rw[hall];rw[if_neg (by simp)];have ht1:h1.IsList l items:=(ht.at λo e=>DV _ e).extBut hs1.extBut hlt;refine Ov (Oy (wpAny_pyNext_list_end hh hit1 ht1 (by simp) λh2 he2=>?_));simp only[Option.isSome_none,ER,if_false];refine Ow (hQ h2 λb o hb e=>he2 b o hb (hs1.extBut b o hb (DV _ e)))
theorem gi{env:Env}{elts:List Expr}{x1}{t:Addr}{Q:Unit->Shared->Prop}(hh:A.handled=none)(ht:s.heap.IsList t items)
  (hn:(OJ elts env).length=items.size) (hstar:(OJ elts env).findIdx? (·.1)=none)
  (h:∀h',Kb s.heap.objs.size s.heap h'->wpAny (model prog w) A (assignInOrder ((OJ elts env).map (·.2)) items.toList) Q E { s with heap:=h' }) :
  wpAny (model prog w) A (assign (.Tuple elts x1 pos) env (.ref t)) Q E s:=by
 rw[assign_Tuple];refine Ov (OX ?_);unfold unpack;rw[hn,hstar];exact Ov (Oy (gS hh ht h))
end
section
variable{X:Cx}{pos:Pos}{u:TGs}
def yV(K:DU)(n:Nat)(t:TGs):TG:=λv σ H Q=>∃a xs,v=.ref a/\SqL K H a xs/\xs.length=n/\t xs σ H Q
theorem pL{K:DU}{ts:List Expr}{k:Nat}(hc:X.calm=true)(h:QGs X ts u)(hn:(OJ ts X.env).length=n:=by rfl)(hst:(OJ ts X.env).findIdx? (·.1)=none:=by rfl)(hK:X.K=K:=by rfl):QG X (.Tuple ts k pos) (yV K n u):=by
 subst hK;refine⟨λpins s σ H v u' Q I r hw=>?_⟩;obtain⟨a,xs,e1,hq,hl,hw⟩:=hw;subst e1;cases r;obtain⟨its,rv,ht,hz⟩:=I.list hq;refine gi (I.ok.hd hc) ht.isList (by simp[hn,<-hl,rv.length]) hst λh' hx=>?_
 have I1:Inv X pins σ H { s with heap:=h' }:=I.kept (t':=s.toks) λb o e=>hx b o (Eh (D2 e)) e
 exact h.out pins _ σ H xs _ Q I1 (by simpa using rv) hw
end
noncomputable def dF(bs:List Nat):Nat:=bs.foldl GS 1
theorem jw(m n:Nat):m / FX m n*n=GS m n:=by
 rw[GS,Nat.div_mul_right_comm (LL m n)]
theorem mw:∀(bs:List Nat) (a m:Nat),a∣m->(∀b∈bs,b∣m)->bs.foldl GS a∣m
 | [],a,m,h,_=>h
 | b::bs,a,m,h,hb=>mw bs _ m (Nat.lcm_dvd h (hb b (by simp))) λc hc=>hb c (by simp[hc])
theorem my:∀(bs:List Nat) (a:Nat),a∣bs.foldl GS a/\∀b∈bs,b∣bs.foldl GS a
 | [],a=>⟨Nat.dvd_refl a,λ_ h=>nomatch h⟩
 | b::bs,a=>by
  obtain⟨h1,h2⟩:=my bs (GS a b);refine⟨Mw (Nat.dvd_lcm_left a b) h1,λc hc=>?_⟩;rcases Eb.mp hc with rfl|hc
  ·exact Mw (Nat.dvd_lcm_right a c) h1
  ·exact h2 c hc
theorem sr{bs:List Nat}(h:∀b∈bs,b∣m):dF bs∣m:=mw bs 1 m (Nat.one_dvd m) h
theorem mz{bs:List Nat}(h:b∈bs):b∣dF bs:=(my bs 1).2 b h
theorem mB{bs:List Nat}(h:∀b∈bs,1<=b/\b<=60):0<dF bs:=by
 have:∀(bs:List Nat) (a:Nat),0<a->(∀b∈bs,1<=b/\b<=60)->0<bs.foldl GS a:=by
  intro bs
  induction bs with
  | nil=>intro a ha _;exact ha
  | cons b bs ih=>intro a ha hb;exact ih _ (Nat.lcm_pos ha (by have:=(hb b (by simp)).1;lia)) λc hc=>hb c (by simp[hc])
 exact this bs 1 (by decide) h
theorem gT(bs:List Nat)(i:Nat)(b:Nat)(h:bs[i]? = some b):dF (bs.take (i+1))=GS (dF (bs.take i)) b:=by
 have et:bs.take (i+1)=bs.take i++[b]:=by rw[D7,h];rfl
 unfold dF;rw[et,Lp];rfl
noncomputable def xJ:Nat:=2 ^ 5*(3 ^ 3*(5 ^ 2*(7 ^ 2*(11 ^ 1*(13 ^ 1*(17 ^ 1*(19 ^ 1*(23 ^ 1*(29 ^ 1*(31 ^ 1*(37 ^ 1*(41 ^ 1*(43 ^ 1*(47 ^ 1*(53 ^ 1*(59 ^ 1*1))))))))))))))))
theorem pM:∀b,b<=60->1<=b->b∣xJ:=by
 have key:∀b:_root_.Fin 61,1<=b.val->xJ % b.val=0:=by decide +kernel
 intro b h1 h2;exact Nat.dvd_of_mod_eq_zero (key ⟨b,by lia⟩ h2)
theorem yW{bs:List Nat}(hb:∀b∈bs,1<=b/\b<=60):dF bs∣xJ:=sr λb h=>pM b (hb b h).2 (hb b h).1
theorem mC{g l:Nat}(h:0<l):FX l (g % l)=FX g l:=by
 rw[Na g l,Nat.gcd_rec l g,Na]
def PartsT(H:Hp)(ps:List Addr)(tb:List (Int×Nat)):Prop:=ps.length=tb.length/\∀(i:Nat) (p:Addr) (z:Int×Nat),ps[i]? = some p->tb[i]? = some z->H p=some (.tup [.int z.1,.int z.2])
def PartsL(H:Hp)(ps:List Addr)(tb:List (Int×Nat)):Prop:=ps.length=tb.length/\∀(i:Nat) (p:Addr) (z:Int×Nat),ps[i]? = some p->tb[i]? = some z->H p=some (.lst [.int z.1,.int z.2])
theorem PartsT.same{H:Hp}{tb:List (Int×Nat)}(h:PartsT H ps tb)(e:Same H H1):PartsT H1 ps tb:=⟨h.1,λi p z a b=>e _ _ (h.2 i p z a b)⟩
theorem PartsL.same{H:Hp}{tb:List (Int×Nat)}(h:PartsL H ps tb)(e:Same H H1):PartsL H1 ps tb:=⟨h.1,λi p z a b=>e _ _ (h.2 i p z a b)⟩
theorem aX{α:Type}{xs:List α}{x:α}{y:α}(h:(xs++[x])[i]? = some y):(i<xs.length/\xs[i]? = some y)\/(i=xs.length/\y=x):=by
 rcases Fn i xs.length with l|l|l
 ·rw[Ek l]at h;exact .inl ⟨l,h⟩
 ·subst l;simp at h;exact .inr ⟨rfl,h.symm⟩
 ·rw[Fo (by simp;lia)]at h;cases h
theorem PartsT.snoc{H:Hp}{tb:List (Int×Nat)}{p:Addr}{z:Int×Nat}(h:PartsT H ps tb)(e:H p=some (.tup [.int z.1,.int z.2])):PartsT H (ps++[p]) (tb++[z]):=by
 refine⟨by simp[h.1],λi q y a b=>?_⟩;rcases aX a with⟨l,a⟩|⟨l,a⟩
 ·rcases aX b with⟨_,b⟩|⟨l',b⟩
  ·exact h.2 i q y a b
  ·have:=h.1;lia
 ·rcases aX b with⟨l',b⟩|⟨_,b⟩
  ·have:=h.1;lia
  ·rw[a,b];exact e
theorem PartsL.snoc{H:Hp}{tb:List (Int×Nat)}{p:Addr}{z:Int×Nat}(h:PartsL H ps tb)(e:H p=some (.lst [.int z.1,.int z.2])):PartsL H (ps++[p]) (tb++[z]):=by
 refine⟨by simp[h.1],λi q y a b=>?_⟩;rcases aX a with⟨l,a⟩|⟨l,a⟩
 ·rcases aX b with⟨_,b⟩|⟨l',b⟩
  ·exact h.2 i q y a b
  ·have:=h.1;lia
 ·rcases aX b with⟨l',b⟩|⟨_,b⟩
  ·have:=h.1;lia
  ·rw[a,b];exact e
section
variable{X:Cx}{pins:List (Addr×Obj)}{σ:St}{H:Hp}{s:Shared}{h':Heap}
theorem Inv.turnedAll(I:Inv X pins σ H s)(k:∀b o,b∉ch->s.heap.get? b=some o->h'.get? b=some o)(hf:∀b∈ch,oF X pins H b):Inv X pins σ H { s with heap:=h',toks:=t' }:=by
 have nit:∀b u,H b=some u->b∉ch:=λb u e z=>by rw[(hf b z).1]at e;cases e
 refine I.step (g':=s.gens) (d':=s.drawn) (ch:=ch) (λb hb=>?_) (λb o _ _ hc e _=>k b o hc e) (λb o _ _ hc e _=>⟨o.slots,k b o hc e⟩) (λ_ _ _ _ n=>n)
  (λb o hc e=>⟨o,k b o hc e⟩) (λ_ _ e=>e) (λ_ _ _ e=>e) (λb ps e=>⟨#[],by rw[e];simp⟩) (λm hm=>?_) (λb u e=>?_) I.bare
 ·obtain⟨_,f1,_,f3,f4,f5⟩:=hf b hb
  exact⟨f3,f1,f4,f5⟩
 ·obtain⟨o,es,ep,q,r⟩:=hm
  exact⟨o,es,ep,k _ o (λz=>(hf _ z).2.1 rfl) q,r⟩
 ·refine(I.hok b u e).stay (λc v hc q=>k c v ?_ q) (λ_ q=>q) λ_ _ q=>q
  rcases hc with z|z
  ·rw[z];exact nit b u e
  ·exact nit c _ z
end
section
variable{X:Cx}
def yX(K:DU):RC:=λxs H Q=>∃(p:Addr) (ns:List Int),xs=[.ref p]/\(SqL K H p (ns.map Of)\/SqT K H p (ns.map Of))/\ns≠[]/\∀M,M∈ns->(∀a∈ns,M<=a)->Q (.int M) H
def yY(K:DU):RC:=λxs H Q=>∃(p:Addr) (ns:List Int),xs=[.ref p]/\(SqL K H p (ns.map Of)\/SqT K H p (ns.map Of))/\ns≠[]/\∀M,M∈ns->(∀a∈ns,a<=M)->Q (.int M) H
theorem dU{zs:Array (Int×Tok)}{ns:List Int}(hn:zs.toList.map (·.1)=ns)(i:Nat):numAt zs i=ns.getD i 0:=by
 subst hn;unfold numAt;rw[DS,DX,Gb]
theorem mD{zs:Array (Int×Tok)}{ns:List Int}(hn:zs.toList.map (·.1)=ns)(h0:ns≠[]):let M:=numAt zs (argBest (λi j=>decide (numAt zs i<numAt zs j)) (zs.size - 1));M∈ns/\∀a∈ns,M<=a:=by
 have hz:ns.length=zs.size:=by rw[<-hn];simp
 have hp:0<ns.length:=Fm.mpr h0;obtain⟨b1,b2⟩:=argBest_lt (numAt zs) (zs.size - 1);refine⟨?_,λa ha=>?_⟩
 ·rw[dU hn,DS,DR ⋯]
  exact D1 _
 ·obtain⟨j,hj,rfl⟩:=Gn.mp ha
  have:=b2 j ⋯;rw[dU hn j,DS,DR hj]at this;exact this
theorem mE{zs:Array (Int×Tok)}{ns:List Int}(hn:zs.toList.map (·.1)=ns)(h0:ns≠[]):let M:=numAt zs (argBest (λi j=>decide (numAt zs i > numAt zs j)) (zs.size - 1));M∈ns/\∀a∈ns,a<=M:=by
 have hz:ns.length=zs.size:=by rw[<-hn];simp
 have hp:0<ns.length:=Fm.mpr h0;obtain⟨b1,b2⟩:=argBest_gt (numAt zs) (zs.size - 1);refine⟨?_,λa ha=>?_⟩
 ·rw[dU hn,DS,DR ⋯]
  exact D1 _
 ·obtain⟨j,hj,rfl⟩:=Gn.mp ha
  have:=b2 j ⋯;rw[dU hn j,DS,DR hj]at this;exact this
theorem dW{ns:List Int}(rv:Vals (ns.map Of) its):∃zs:Array (Int×Tok),its.toArray=Pb zs/\zs.toList.map (·.1)=ns:=by
 have hi:OI its ns:=cB rv;obtain⟨zs,hx⟩:=hi.allInts.items;have hn:numsOf its.toArray.toList=ns:=by rw[show its.toArray.toList=its from rfl,hi.numsOf]
 rw[hx,nums_intItems]at hn;exact⟨zs,hx,hn⟩
theorem kg {t:Addr}(ht:h.IsTuple t items):∀b∈[h.objs.size,t],b<(h.push { cls:=.type "tuple_iterator",data:=.fields #[.ref t,.int 0 0] }).objs.size:=by
 intro b hb;rw[FO];obtain⟨_,e,_⟩:=ht;simp only[Eb,EC,or_false]at hb;rcases hb with rfl|rfl
 ·exact Jz _
 ·exact FY (D2 e)
theorem mF{g:Heap}{o:Obj}(hk:∀b u,b∉[h.objs.size]->(h.push o).get? b=some u->g.get? b=some u):∀b u,h.get? b=some u->g.get? b=some u:=λb u e=>by
 refine hk b u ?_ (DV _ e);intro hm;have e2:b=h.objs.size:=by simpa using hm
 exact absurd (e2▸D2 e) (E9 _)
theorem pN {K:DU}(hc:X.calm=true) (hK:X.K=K:=by rfl):QC X (.builtin "min") (yX K):=by
 subst hK;refine⟨λpins s σ H xs us Q I r h=>?_⟩;obtain⟨p,ns,rfl,hq,h0,q⟩:=h;obtain⟨u,rfl,ru⟩:=eD r;cases ru;rcases hq with hq|hq
 ·obtain⟨its,rv,hp,hz⟩:=I.list hq
  obtain⟨zs,hx,hn⟩:=dW rv;have hl:=hp.isList;rw[hx]at hl;obtain⟨m1,m2⟩:=mD hn h0;refine min_intList (I.ok.hd hc) hl ?_ λv h' tk hv hk=>?_
  ·have:zs.toList.length=ns.length:=by rw[<-hn];simp
   have:=Fm.mpr h0;simp at *;lia
  ·obtain⟨t,rfl⟩:=intItems_at hv
   exact⟨.int _,H,I.kept hk,⟨t,rfl⟩,q _ m1 m2⟩
 ·obtain⟨its,rv,hp,hz⟩:=I.tuple hq
  obtain⟨zs,hx,hn⟩:=dW rv;have ht:s.heap.IsTuple p (Pb zs):=by rw[<-hx];exact hp
  have hlt:p<s.heap.objs.size:=by obtain⟨_,e,_⟩:=ht;exact D2 e
  obtain⟨m1,m2⟩:=mD hn h0;refine call_min_walk (O2 ht ?_);refine⟨_,_,_,_,_,_,_,rfl,Nu (A:=X.A.in1) (I.ok.hd hc) _ p (Eh hlt) (Pb zs),⟨⟨_,Ea _ rfl,rfl,rfl⟩,ht.push _⟩,kg ht,?_,CmpOf.ints_lt (numAt zs) (λ_ _=>intItems_at),λv h' tk hv hk=>?_⟩
  ·have:zs.toList.length=ns.length:=by rw[<-hn];simp
   have:=Fm.mpr h0;simp[Pb]at *;lia
  ·have hv':(Pb zs)[argBest (λi j=>decide (numAt zs i<numAt zs j)) (zs.size - 1)]? = some v:=by simpa [Pb]using hv
   obtain⟨t,rfl⟩:=intItems_at hv';exact⟨.int _,H,I.kept (mF hk),⟨t,rfl⟩,q _ m1 m2⟩
theorem pO {K:DU}(hc:X.calm=true) (hK:X.K=K:=by rfl):QC X (.builtin "max") (yY K):=by
 subst hK;refine⟨λpins s σ H xs us Q I r h=>?_⟩;obtain⟨p,ns,rfl,hq,h0,q⟩:=h;obtain⟨u,rfl,ru⟩:=eD r;cases ru;rcases hq with hq|hq
 ·obtain⟨its,rv,hp,hz⟩:=I.list hq
  obtain⟨zs,hx,hn⟩:=dW rv;have hl:=hp.isList;rw[hx]at hl;obtain⟨m1,m2⟩:=mE hn h0;refine max_intList (I.ok.hd hc) hl ?_ λv h' tk hv hk=>?_
  ·have:zs.toList.length=ns.length:=by rw[<-hn];simp
   have:=Fm.mpr h0;simp at *;lia
  ·obtain⟨t,rfl⟩:=intItems_at hv
   exact⟨.int _,H,I.kept hk,⟨t,rfl⟩,q _ m1 m2⟩
 ·obtain⟨its,rv,hp,hz⟩:=I.tuple hq
  obtain⟨zs,hx,hn⟩:=dW rv;have ht:s.heap.IsTuple p (Pb zs):=by rw[<-hx];exact hp
  have hlt:p<s.heap.objs.size:=by obtain⟨_,e,_⟩:=ht;exact D2 e
  obtain⟨m1,m2⟩:=mE hn h0;refine call_max_walk (O2 ht ?_);refine⟨_,_,_,_,_,_,_,rfl,Nu (A:=X.A.in1) (I.ok.hd hc) _ p (Eh hlt) (Pb zs),⟨⟨_,Ea _ rfl,rfl,rfl⟩,ht.push _⟩,kg ht,?_,Mx (numAt zs) (λ_ _=>intItems_at),λv h' tk hv hk=>?_⟩
  ·have:zs.toList.length=ns.length:=by rw[<-hn];simp
   have:=Fm.mpr h0;simp[Pb]at *;lia
  ·have hv':(Pb zs)[argBest (λi j=>decide (numAt zs i > numAt zs j)) (zs.size - 1)]? = some v:=by simpa [Pb]using hv
   obtain⟨t,rfl⟩:=intItems_at hv';exact⟨.int _,H,I.kept (mF hk),⟨t,rfl⟩,q _ m1 m2⟩
def Dw(K:DU):R2:=λx y H Q=>∃(a b:Addr) (ns ms:List Int),x=.ref a/\y=.ref b/\SqL K H a (ns.map Of)/\SqL K H b (ms.map Of)/\Q (.bl (decide (ns=ms))) H
theorem su{ns:List Int}(hl:ns.length=ms.length):(DZ ns.length).all (λi=>ns.getD i 0 == ms.getD i 0)=decide (ns=ms):=by
 have:=gQ ns ms;rw[hl,Nat.min_self,beq_self_eq_true,Bool.and_true]at this;rw[hl];exact this
theorem vZ{K:DU}(hu:X.A.units<cLine)(hK:X.K=K:=by rfl):QOp X (OC .Eq) (Dw K):=by
 subst hK;refine⟨λpins s σ H x y v u Q I rx ry h=>?_⟩;obtain⟨a,b,ns,ms,rfl,rfl,ha,hb,q⟩:=h;cases rx;cases ry;obtain⟨its,r1,p1,z1⟩:=I.list ha;obtain⟨its2,r2,p2,z2⟩:=I.list hb;have l1:its.toArray.size=ns.length:=by have:=r1.length;simp at this;simp[this]
 have l2:its2.toArray.size=ms.length:=by have:=r2.length;simp at this;simp[this]
 by_cases hl:ns.length=ms.length
 ·refine N2 (e:=λi=>ns.getD i 0 == ms.getD i 0) p1.isList p2.isList ⋯ hu (λj h1 h2=>kf r1 r2 j h1 h2) X.prog X.w X.xe _ ?_
  rw[l1,su hl];exact⟨.bl _,H,I,rfl,q⟩
 ·refine Nb p1.isList p2.isList (by rw[l1,l2];simpa using hl) hu X.prog X.w X.xe _ ?_
  have e:decide (ns=ms)=false:=decide_eq_false λz=>hl (by rw[z])
  rw[e]at q;exact⟨.bl false,H,I,rfl,q⟩
end
section
variable{K:DU}{H:Hp}{Q:VK}
theorem pP{p:Addr}{ns:List Int}(hs:SqL K H p (ns.map Of)\/SqT K H p (ns.map Of))(h0:ns≠[])(h:∀M,M∈ns->(∀a∈ns,M<=a)->Q (.int M) H):yX K [.ref p] H Q:=⟨p,ns,rfl,hs,h0,h⟩
theorem pQ{p:Addr}{ns:List Int}(hs:SqL K H p (ns.map Of)\/SqT K H p (ns.map Of))(h0:ns≠[])(h:∀M,M∈ns->(∀a∈ns,a<=M)->Q (.int M) H):yY K [.ref p] H Q:=⟨p,ns,rfl,hs,h0,h⟩
end
section
variable{prog:Program}{w:World}{A:Around}{E:Value->Shared->Prop}{s:Shared}
theorem iS{it t:Addr}{vs:Array Value}{x:Value}(a1:s.heap.IsTupleIter it t i)(a2:s.heap.IsTuple t vs)(a3:vs[i]? = some x)
  (a4:∀g,g.IsTupleIter it t (i+1)->FK it s.heap g->Q x { s with heap:=g }):wpAny (model prog w) A (Fk (.ref it)) Q E s:=by
 have ty:=a1.typeIs;obtain⟨u,e1,e2,e3⟩:=a1;obtain⟨v,f1,_,m,f3⟩:=a2;unfold Fk;refine Ov (OE (name:=Ey "__next__") ty Gh (OG Gh ty IS ?_ (IF _)));show wpAny _ _ (GM (.ref it) 0 >>= _) _ _ s
 refine Ov (OA e1 e3 (x:=.ref t) rfl ?_);show wpAny _ _ (ite ((Ep t == EN)=true) _ _) _ _ s
 rw[if_neg (λz:(Ep t == EN)=true=>Ei z)];show wpAny _ _ (GM (.ref it) 1 >>= _) _ _ s
 refine Ov (OA e1 e3 (x:=.int i 0) rfl ?_);show wpAny _ _ (L8 (.ref t) >>= _) _ _ s
 refine Ov (OK f1 f3 ?_);simp only[a3,E3];refine Ov (wpAny_setField e1 e3 (by simp) (Ow ⟨x,rfl,Ow (a4 _ ?_ (Iw ..))⟩));refine⟨_,Ga _ e1 (Obj.isFreed_of_fields (K4 e3 _)),(Obj.cls_mapFields ..).trans e2,?_⟩;rw[K4 e3];simp[Pc]
theorem pR{it t:Addr}{vs:Array Value}(hh:A.handled=none)(a1:s.heap.IsTupleIter it t i)(a2:s.heap.IsTuple t vs)(a3:vs[i]? = none)
  (a4:∀g e,Kb it s.heap g->(∃o,g.get? e=some o/\o.cls=.type "StopIteration")->E (.ref e) { s with heap:=g }):wpAny (model prog w) A (Fk (.ref it)) Q E s:=by
 have ty:=a1.typeIs;obtain⟨u,e1,e2,e3⟩:=a1;obtain⟨v,f1,_,m,f3⟩:=a2;unfold Fk;refine Ov (OE (name:=Ey "__next__") ty Gh (OG Gh ty IS ?_ (IF _)));show wpAny _ _ (GM (.ref it) 0 >>= _) _ _ s
 refine Ov (OA e1 e3 (x:=.ref t) rfl ?_);show wpAny _ _ (ite ((Ep t == EN)=true) _ _) _ _ s
 rw[if_neg (λz:(Ep t == EN)=true=>Ei z)];show wpAny _ _ (GM (.ref it) 1 >>= _) _ _ s
 refine Ov (OA e1 e3 (x:=.int i 0) rfl ?_);show wpAny _ _ (L8 (.ref t) >>= _) _ _ s
 refine Ov (OK f1 f3 ?_);simp only[a3,E3];refine Ov (O1 (Ov (wpAny_setField e1 e3 (by simp) ?_)));show wpAny _ _ (PySem.newExc (.type "StopIteration") [] >>= _) _ _ _
 refine Ov ?_;simp only[newTuple,newExc];refine Ov (OB ?_ (by size_fits));refine Ov (m:=PySem.firstArgMember _ _) (wpAny_of_eq (a:=EN) (by first|rfl|(simp only[firstArgMember];rfl)) ?_);refine OB ?_ (by size_fits);simp only[raiseNew];refine Ov (wpAny_handled ?_)
 first
  | rw[show A.in1.handled=none from hh]
  | rw[hh]
 refine Ov (Ow (wpAny_throw ?_));exact a4 _ _ (((Iw ..).extBut.push _).push _) ⟨_,Ea _ rfl,rfl⟩
end
def BI(K:DU)(a:Addr):It:=
 ⟨λi H=>∃xs x,SqL K H a xs/\xs[i]? = some x,λi H v H'=>∃p x,v=.ref p/\H p=none/\H'=upd H p (.tup [.int i,x])/\∀xs,SqL K H a xs->xs[i]? = some x,λi H=>∃xs,SqL K H a xs/\xs.length=i⟩
theorem gU{b:Addr}{o u:Obj}{x y:String}(e1:h.get? a=some o)(c1:o.cls=.type x)(e2:h.get? b=some u)(c2:u.cls=.type y)(hn:x≠y):a≠b:=λz=>by
 subst z;rw[e1]at e2;cases e2;rw[c1]at c2;exact hn (by injection c2)
theorem Inv.pair{H:Hp}{s:Shared}{g:Heap}{v:Value}{x:V}(I:Inv X pins σ H s)(k:∀b o,b∉ch->s.heap.get? b=some o->g.get? b=some o)(hf:∀b∈ch,oF X pins H b)
  (hg:g.get? s.heap.objs.size=some { cls:=.type "tuple",data:=.seq #[u,v] }) (rx:RelV x u) (ry:RelV y v):Inv X pins σ (upd H s.heap.objs.size (.tup [x,y])) { s with heap:=g,toks:=tk }/\H s.heap.objs.size=none:=by
 have I1:Inv X pins σ H { s with heap:=g,toks:=tk }:=I.turnedAll k hf;have hn:H s.heap.objs.size=none:=I.hok.fresh (DY _);obtain⟨_,f1,f2,f3,f4,f5⟩:=I.fpOk (DY _) hn;refine⟨I1.adopt hn f1 f3 f4 f5 ?_,hn⟩;exact⟨by show 2<=Ox;decide,[u,v],.cons rx (.cons ry .nil),⟨_,hg,rfl,_,rfl⟩⟩
theorem nW{w:World}{K:DU}{elts:List Expr}{k:Nat}(a e it:Addr)(hei:e≠it):Turn P w K (.Tuple elts k pos) (BI K a) [e,it] e (λi h=>(∃old,IsEnum h e it i old)/\h.IsListIter it a i) where
 mem:=by simp
 obj:=λi h st b hb=>by
  obtain⟨⟨old,q⟩,o,q1,q2,q3⟩:=st;simp only[Eb,EC,or_false]at hb;rcases hb with rfl|rfl
  ·exact⟨_,q,λv z=>by cases z⟩
  ·exact⟨o,q1,λv z=>by rw[q3]at z;cases z⟩
 keep:=λi h h' st kk=>by
  obtain⟨⟨old,q⟩,o,q1,q2⟩:=st;exact⟨⟨old,kk e (by simp) _ q⟩,o,kk it (by simp) o q1,q2⟩
 item:=by
  intro X hP hw hK hc i pins s σ H E I hf st hg;subst hP hw hK;obtain⟨xs,x,hq,hx⟩:=hg;obtain⟨its,rv,p,hz⟩:=I.list hq;obtain⟨u,hu,ru⟩:=rv.get hx;have hl:=rv.length;have hil:i<its.toArray.size:=by have:=(D6.mp hu).1;simpa using this
  obtain⟨⟨old,q⟩,q2⟩:=st;have hne:a≠it:=by
   obtain⟨o1,g1,g2,_⟩:=p.isList;obtain⟨o2,g3,g4,_⟩:=q2;exact gU g1 g2 g3 g4 (by decide)
  have hea:e≠a:=by
   obtain⟨o1,g1,g2,_⟩:=p.isList;exact gU q rfl g1 g2 (by decide)
  refine wpAny_pyNext_enum_itemD (NH (A:=X.A.in1) (I.ok.hd hc) it a hne its.toArray) q ⟨q2,p.isList⟩ hil hei (by simp[hei,hea]) λy h' tk hP ho hs' hT hsz hk=>⟨_,rfl,wpAny_letOwnedTupleGo_enum ho λg he' sb=>?_⟩
  have ey:y=u:=by
   have h1:its.toArray[i]? = some u:=by simpa using hu
   exact Er (hP.symm.trans h1)
  subst ey;have hTe:s.heap.objs.size≠e:=EU (D2 q);have lt2:it<s.heap.objs.size:=by obtain⟨o2,g3,_⟩:=q2;exact D2 g3
  obtain⟨I2,hn⟩:=I.pair (g:=g) (tk:=tk+1) (ch:=[e,it]) (x:=.int i) (y:=x) (λb o hb r=>(sb.2 b (λz=>hb (by simp[z]))).trans (hk b o (λz=>hb (by simp[z])) (λz=>hb (by simp[z])) r)) hf ((sb.2 _ hTe).trans hT) ⟨tk,rfl⟩ ru;refine⟨.ref s.heap.objs.size,_,I2,rfl,⟨_,x,rfl,hn,rfl,λys hy=>by rw[I.list_inj hy hq];exact hx⟩,⟨⟨_,by simpa using he'⟩,hs'.1.at λo r=>(sb.2 it hei.symm).trans r⟩,λb hb=>?_⟩;simp only[Eb,EC,or_false]at hb;rcases hb with rfl|rfl
  ·rw[aB hTe.symm];exact(hf _ (by simp)).1
  ·rw[aB (Eh lt2)];exact(hf _ (by simp)).1
 done:=by
  intro X hP hw hK hc i pins s σ H E I hf st hg;subst hP hw hK;obtain⟨xs,hq,hx⟩:=hg;obtain⟨its,rv,p,hz⟩:=I.list hq;obtain⟨⟨old,q⟩,q2⟩:=st;have hl:=rv.length;have hne:a≠it:=by
   obtain⟨o1,g1,g2,_⟩:=p.isList;obtain⟨o2,g3,g4,_⟩:=q2;exact gU g1 g2 g3 g4 (by decide)
  have hi:its.toArray.size=i:=by simp;lia
  subst hi;refine wpAny_pyNext_enum_endD (NH (A:=X.A.in1) (I.ok.hd hc) it a hne its.toArray) q ⟨q2,p.isList⟩ λh' eb=>⟨rfl,I.turnedAll (t':=s.toks) (ch:=[it]) (λb o hb r=>eb b o (λz=>hb (by simp[z])) r) λb hb=>hf b (by simp at hb;simp[hb])⟩
 self:=λ_ _ _ _ _ st h=>by
  obtain⟨⟨old,q⟩,_⟩:=st;exact wpAny_pyIter_enum q h
def Itz(K:DU)(a b:Addr):It:=
 ⟨λi H=>∃xs ys x y,SqL K H a xs/\SqL K H b ys/\xs[i]? = some x/\ys[i]? = some y,λi H v H'=>∃p x y,v=.ref p/\H p=none/\H'=upd H p (.tup [x,y])/\(∀xs,SqL K H a xs->xs[i]? = some x)/\∀ys,SqL K H b ys->ys[i]? = some y,λi H=>∃xs ys,SqL K H a xs/\SqL K H b ys/\(xs.length<=i\/ys.length<=i)⟩
theorem sv{w:World}{K:DU}{elts:List Expr}{k:Nat}(a b z TI TO i1 i2:Addr)(D:ZipApart z TI TO i1 i2 a b):
  Turn P w K (.Tuple elts k pos) (Itz K a b) [z,TI,TO,i1,i2] z (λi h=>IsZip h z TI TO .none/\OZ h TI (.ref i1) (.ref i2)/\(∃u v,OZ h TO u v)/\h.IsListIter i1 a i/\h.IsListIter i2 b i) where
 mem:=by simp
 obj:=λi h st c hb=>by
  obtain⟨q1,q2,⟨u,v,q3⟩,⟨o4,q4,_,d4⟩,⟨o5,q5,_,d5⟩⟩:=st;simp only[Eb,EC,or_false]at hb;rcases hb with rfl|rfl|rfl|rfl|rfl
  ·exact⟨_,q1,λv z=>by cases z⟩
  ·exact⟨_,q2,λv z=>by cases z⟩
  ·exact⟨_,q3,λv z=>by cases z⟩
  ·exact⟨o4,q4,λv z=>by rw[d4]at z;cases z⟩
  ·exact⟨o5,q5,λv z=>by rw[d5]at z;cases z⟩
 keep:=λi h h' st kk=>by
  obtain⟨q1,q2,⟨u,v,q3⟩,⟨o4,q4,r4⟩,⟨o5,q5,r5⟩⟩:=st;exact⟨kk z (by simp) _ q1,kk TI (by simp) _ q2,⟨u,v,kk TO (by simp) _ q3⟩,⟨o4,kk i1 (by simp) _ q4,r4⟩,⟨o5,kk i2 (by simp) _ q5,r5⟩⟩
 item:=by
  intro X hP hw hK hc i pins s σ H E I hf st hg;subst hP hw hK;obtain⟨xs,ys,x,y,hqx,hqy,hx,hy⟩:=hg;obtain⟨its,rv,p,hz⟩:=I.list hqx;obtain⟨jts,rw',p',hz'⟩:=I.list hqy;obtain⟨u,hu,ru⟩:=rv.get hx;obtain⟨v,hv,rv'⟩:=rw'.get hy;obtain⟨q1,q2,⟨u3,v3,q3⟩,q4,q5⟩:=st;have l1:=D2 q1;have l2:=D2 q2;have l3:=D2 q3;have l4:i1<s.heap.objs.size:=by obtain⟨o,g,_⟩:=q4;exact D2 g
  have l5:i2<s.heap.objs.size:=by obtain⟨o,g,_⟩:=q5;exact D2 g
  refine wpAny_pyNext_zip_item D q1 q2 q3 q4 q5 p.isList p'.isList (x:=u) (y:=v) (by simpa using hu) (by simpa using hv) λh' a1 a2 a3 a4 a5 a6 a7=>⟨_,rfl,wpAny_letOwnedTupleGo_zip a1 λg hz2 sb=>?_⟩
  obtain⟨I2,hn⟩:=I.pair (g:=g) (tk:=s.toks) (ch:=[z,TO,i1,i2]) (x:=x) (y:=y) (λc o hb r=>(sb.2 c (λe=>hb (by simp[e]))).trans (a7 c o (λe=>hb (by simp[e])) (λe=>hb (by simp[e])) (λe=>hb (by simp[e])) (λe=>hb (by simp[e])) r)) (λc hb=>hf c (by simp at hb;rcases hb with e|e|e|e<;>simp[e])) ((sb.2 _ (EU l1)).trans a5) ru rv';refine⟨.ref s.heap.objs.size,_,I2,rfl,⟨_,x,y,rfl,hn,rfl,λzs h=>by rw[I.list_inj h hqx];exact hx,λzs h=>by rw[I.list_inj h hqy];exact hy⟩,⟨hz2,?_,⟨_,_,(sb.2 _ D.TOz).trans a2⟩,a3.at λo r=>(sb.2 i1 D.i1z).trans r,a4.at λo r=>(sb.2 i2 D.i2z).trans r⟩,λc hb=>?_⟩
  ·exact(sb.2 _ D.TIz).trans (a7 TI _ D.TIz D.TITO D.TIi1 D.TIi2 q2)
  ·have hc0:=(hf c hb).1
   simp only[Eb,EC,or_false]at hb;have:c<s.heap.objs.size:=by rcases hb with rfl|rfl|rfl|rfl|rfl<;>assumption
   rw[aB (Eh this)];exact hc0
 done:=by
  intro X hP hw hK hc i pins s σ H E I hf st hg;subst hP hw hK;obtain⟨xs,ys,hqx,hqy,hx⟩:=hg;obtain⟨its,rv,p,hz⟩:=I.list hqx;obtain⟨jts,rw',p',hz'⟩:=I.list hqy;have m1:=rv.length;have m2:=rw'.length;obtain⟨q1,q2,⟨u3,v3,q3⟩,q4,q5⟩:=st;refine wpAny_pyNext_zip_end (I.ok.hd hc) D q1 q2 q3 q4 q5 p.isList p'.isList ?_ λh' kk=>⟨rfl,I.turnedAll (t':=s.toks) (ch:=[z,TO,i1,i2]) (λc o hb r=>kk c o (λe=>hb (by simp[e])) (λe=>hb (by simp[e])) (λe=>hb (by simp[e])) (λe=>hb (by simp[e])) r) (λc hb=>hf c (by simp at hb;rcases hb with e|e|e|e<;>simp[e]))⟩
  rcases hx with h|h
  ·exact .inl (by simp;lia)
  ·exact .inr (by simp;lia)
 self:=λ_ _ _ _ _ st h=>wpAny_pyIter_zip st.1 h
section
variable{X:Cx}{a b:Expr}{t:TA}{p pos tpos:Pos}{ts:List Expr}{k:Nat}
def uG(K:DU)(t:TA):TI:=λσ H R=>t σ H λvs H1=>∃a,vs=[.ref a]/\(∃xs,SqL K H1 a xs)/\R (BI K a) H1
def CU(K:DU)(t:TA):TI:=λσ H R=>t σ H λvs H1=>∃a b,vs=[.ref a,.ref b]/\(∃xs,SqL K H1 a xs)/\(∃ys,SqL K H1 b ys)/\R (Itz K a b) H1
theorem gW {K:DU}(hg:Gl X "enumerate") (hm:X.mg "enumerate" = none) (ha:QA X [a] t) (hn:bS a=true:=by rfl) (hK:X.K=K:=by rfl):QI X (.Tuple ts k tpos) (.Call (.Name "enumerate" p) [a] [] pos) (uG K t):=by
 subst hK;refine⟨λpins s σ H R I h=>?_⟩;refine Call_ (de I hg hm (by decide +kernel:bootBuiltins "enumerate" = some (.type "enumerate")) (EY (thn (ha.out pos pins s σ H _ I h) λus s1 ⟨vs,H1,I1,r1,q1⟩=>?_) (aM hn) rfl));obtain⟨l,e,⟨xs,hq⟩,q⟩:=q1;subst e;cases r1 with
 | cons r rr=>
  cases rr;cases r;obtain⟨its,rv,pl,hz⟩:=I1.list hq;refine call_enumerate_list pl.isList λg h1 h2 h3 h4=>wpAny_pyIter_enum h1 ?_
  have I2:Inv X pins σ H1 { s1 with heap:=g }:=I1.kept (t':=s1.toks) h4;refine⟨s1.heap.objs.size+1,[s1.heap.objs.size+1,s1.heap.objs.size],_,_,H1,rfl,I2,nW l _ _ (JA _),⟨⟨_,h1⟩,h2⟩,λc hc=>?_,q⟩;have hle:s1.heap.objs.size<=c:=by
   simp only[Eb,EC,or_false]at hc;rcases hc with rfl|rfl
   ·exact Nv _
   ·exact DY _
  exact I1.fpOk hle (I1.hok.fresh hle)
theorem uH {K:DU}(hg:Gl X "zip") (hm:X.mg "zip" = none) (ha:QA X [a,b] t) (hn:bS a=true:=by rfl) (hn2:bS b=true:=by rfl) (hK:X.K=K:=by rfl):QI X (.Tuple ts k tpos) (.Call (.Name "zip" p) [a,b] [] pos) (CU K t):=by
 subst hK;refine⟨λpins s σ H R I h=>?_⟩;have e2:starEach [b] X.env=[(false,eval b X.env)]:=aM hn2;refine Call_ (de I hg hm (by decide +kernel:bootBuiltins "zip" = some (.type "zip")) (EY (thn (ha.out pos pins s σ H _ I h) λus s1 ⟨vs,H1,I1,r1,q1⟩=>?_) (aM hn) (by rw[e2];rfl)));obtain⟨l,m,e,⟨xs,hq⟩,⟨ys,hq'⟩,q⟩:=q1;subst e;cases r1 with
 | cons r rr=>
  cases rr with
  | cons r' rr=>
   cases rr;cases r;cases r';obtain⟨its,rv,pl,hz⟩:=I1.list hq;obtain⟨jts,rw',pl',hz'⟩:=I1.list hq';have a1:l<s1.heap.objs.size:=by obtain⟨o,g,_⟩:=pl.isList;exact D2 g
   have a2:m<s1.heap.objs.size:=by obtain⟨o,g,_⟩:=pl'.isList;exact D2 g
   refine call_zip_2 pl.isList pl'.isList λg h1 h2 h3 h4 h5 h6 h7=>wpAny_pyIter_zip h1 ?_
   have I2:Inv X pins σ H1 { s1 with heap:=g }:=I1.kept (t':=s1.toks) h7;refine⟨_,_,_,_,H1,rfl,I2,sv l m _ _ _ _ _ (zipApart_new a1 a2),⟨h1,h2,⟨_,_,h3⟩,h4,h5⟩,λc hc=>?_,q⟩;have hle:s1.heap.objs.size<=c:=by
    simp only[Eb,EC,or_false]at hc;rcases hc with rfl|rfl|rfl|rfl|rfl
    ·exact Fj _ _
    ·exact Fj _ _
    ·exact Fj _ _
    ·exact DY _
    ·exact Fj _ _
   exact I1.fpOk hle (I1.hok.fresh hle)
end
section
variable{K:DU}{σ:St}{H:Hp}{Q:VK}{D:Ends}{g:TG}{te:TE}{tb:TS}
theorem Au{t:TA}{R:It->Hp->Prop}(h:t σ H λvs H1=>∃a,vs=[.ref a]/\(∃xs,SqL K H1 a xs)/\R (BI K a) H1):uG K t σ H R:=h
theorem CV{t:TA}{R:It->Hp->Prop}(h:t σ H λvs H1=>∃a b,vs=[.ref a,.ref b]/\(∃xs,SqL K H1 a xs)/\(∃ys,SqL K H1 b ys)/\R (Itz K a b) H1):CU K t σ H R:=h
theorem eF{J:It}(Pv:Nat->St->Hp->Prop)(h0:Pv 0 σ H)(hgo:∀i σ H,i<n->Pv i σ H->J.go i H)(hst:∀σ H,Pv n σ H->J.stop n H)
  (hs:∀i x σ H H',i<n->Pv i σ H->J.yld i H x H'->g x σ H' λσ2 H2=>tb { D with nx:=Pv (i+1),ct:=Pv (i+1),bk:=D.nx } σ2 H2) (hd:∀σ H,Pv n σ H->D.nx σ H) :
  ∃W:Nat->Nat->St->Hp->Prop,(∃m,W 0 m σ H)/\∀i m σ H,W i m σ H->
   (J.stop i H/\D.nx σ H)\/(J.go i H/\∃N:St->Hp->Prop,(∀σ' H',N σ' H'->∃m',m'<m/\W (i+1) m' σ' H')/\∀x H',J.yld i H x H'->g x σ H' λσ2 H2=>tb { D with nx:=N,ct:=N,bk:=D.nx } σ2 H2):=by
 refine⟨λi m σ H=>m=n - i/\i<=n/\Pv i σ H,⟨n,by simp,Ec _,h0⟩,?_⟩;rintro i m σ H ⟨rfl,hi,p⟩;by_cases hlt:i<n
 ·exact .inr ⟨hgo i σ H hlt p,Pv (i+1),λσ' H' p'=>⟨n - (i+1),by lia,rfl,hlt,p'⟩,λx H' y=>hs i x σ H H' hlt p y⟩
 ·have e:i=n:=by lia
  subst e;exact .inl ⟨hst σ H p,hd σ H p⟩
theorem gw{J:It}{σ0:St}{R:List V->Hp->Prop}(Pv:Nat->List V->St->Hp->Prop)(hz:n<Ox)(hl:∀i ys σ H,Pv i ys σ H->ys.length=i)(h0:Pv 0 [] σ0 H)(hgo:∀i ys σ H,i<n->Pv i ys σ H->J.go i H)(hst:∀ys σ H,Pv n ys σ H->J.stop n H)
  (hs:∀i x ys σ H H',i<n->Pv i ys σ H->J.yld i H x H'->g x σ H' λσ2 H2=>te σ2 H2 λy H3=>Nx n i (Pv (i+1) (ys++[y]) σ2 H3)) (hd:∀ys σ H,Pv n ys σ H->R ys H) :
  ∃W:Nat->Nat->List V->St->Hp->Prop,(∃m,W 0 m [] σ0 H)/\∀i m xs σc H,W i m xs σc H->xs.length<Ox/\
  ((J.stop i H/\R xs H)\/(J.go i H/\∀x H',J.yld i H x H'->g x σc H' λσ2 H2=>te σ2 H2 λy H3=>∃m',m'<m/\W (i+1) m' (xs++[y]) σ2 H3)):=by
 refine⟨λi m xs σ H=>m=n - i/\i<=n/\Pv i xs σ H,⟨n,by simp,Ec _,h0⟩,?_⟩;rintro i m xs σ H ⟨rfl,hi,p⟩;refine⟨by rw[hl i xs σ H p];exact E4 hi hz,?_⟩;by_cases hlt:i<n
 ·exact .inr ⟨hgo i xs σ H hlt p,λx H' y=>hs i x xs σ H H' hlt p y⟩
 ·have e:i=n:=by lia
  subst e;exact .inl ⟨hst xs σ H p,hd xs σ H p⟩
end
section
variable{K:DU}{σ:St}{H:Hp}{Q:VK}{D:Ends}
theorem CW{y:Str}(h:Q (.bl (decide (Oh x=Oh y))) H):rEq (.str x) (.str y) H Q:=⟨rfl,h⟩
theorem CY{R:Bool->Hp->Prop}(h:ta σ H λx H'=>∃k,xH K x H' k/\R k H'):CP K ta σ H R:=h
theorem Dx{r:V->Option Int->Option Int->Hp->VK->Prop}{te:TE}{tl th:TO}(h:te σ H λx H1=>tl σ H1 λl H2=>th σ H2 λu H3=>r x l u H3 Q):tSl r te tl th σ H Q:=h
theorem BJ{t:TE}{R:Option Int->Hp->Prop}(h:t σ H λx H1=>∃i,x=.int i/\R (some i) H1):vI t σ H R:=h
theorem yZ{R:Option Int->Hp->Prop}(h:R none H):kZ σ H R:=h
theorem bu{p:Addr}{x:V}{R:St->Hp->Prop}(e:H p=some (.tup [x,y]))(h:R ((σ.set i (some x)).set j (some y)) H):Aj K 2 (je (dk i) (je (dk j) yc)) (.ref p) σ H R:=
 ⟨p,_,rfl,Oe e,rfl,_,_,rfl,_,_,rfl,rfl,h⟩
theorem BK{p:Addr}(h:SqL K H p xs):xH K (.ref p) H (!xs.isEmpty):=.inl ⟨xs,h,rfl⟩
theorem Dy{p:Addr}(h:SqT K H p xs):xH K (.ref p) H (!xs.isEmpty):=.inr (.inl ⟨xs,h,rfl⟩)
theorem Av{α:Type}{G:Prop}{S B:α->Hp->Prop}(hA:(∀a H,S a H->B a H)->G)(hB:∀a H,S a H->B a H):G:=hA hB
theorem aH{α:Type}{f:α->V}{xs:List α}{x:V}(h:(xs.map f)[i]? = some x):∃z,x=f z/\xs[i]? = some z/\z∈xs/\i<xs.length:=by
 rw[DX]at h;cases e:xs[i]? with
 | none=>rw[e]at h;cases h
 | some z=>rw[e]at h;exact⟨z,(Er h).symm,rfl,Ew e,(D6.mp e).1⟩
end
def RowsAt(H:Hp)(ps:List Addr)(b m:Nat)(zs:List Nat):Prop:=ps.length=zs.length/\∀(i:Nat) (p:Addr) (z:Nat),ps[i]? = some p->zs[i]? = some z->H p=some (.tup ((dg z b m).map Of))
theorem RowsAt.same{H:Hp}(h:RowsAt H ps b m zs)(e:Same H H1):RowsAt H1 ps b m zs:=⟨h.1,λi p z a c=>e _ _ (h.2 i p z a c)⟩
theorem RowsAt.snoc{H:Hp}{p:Addr}{z:Nat}(h:RowsAt H ps b m zs)(e:H p=some (.tup ((dg z b m).map Of))):RowsAt H (ps++[p]) b m (zs++[z]):=by
 refine⟨by simp[h.1],λi q y a c=>?_⟩;rcases aX a with⟨l,a⟩|⟨l,a⟩
 ·rcases aX c with⟨_,c⟩|⟨l',c⟩
  ·exact h.2 i q y a c
  ·have:=h.1;lia
 ·rcases aX c with⟨l',c⟩|⟨_,c⟩
  ·have:=h.1;lia
  ·rw[a,c];exact e
def Spelt(ns:List Int)(b:Nat)(zs:List Nat)(m:Nat):Prop:=(ns=[]/\zs=[]/\m=0)\/∃lo hi:Int,lo∈ns/\hi∈ns/\(∀x∈ns,lo<=x/\x<=hi)/\zs=ns.map (λx=>(x - lo).toNat)/\(hi - lo).toNat<b ^ m/\(0<m->b ^ (m - 1)<=(hi - lo).toNat)/\m<201
theorem Spelt.len{ns:List Int}(h:Spelt ns b zs m):zs.length=ns.length:=by
 rcases h with⟨rfl,rfl,_⟩|⟨lo,hi,_,_,_,rfl,_⟩
 ·rfl
 ·simp
theorem Spelt.few{ns:List Int}(h:Spelt ns b zs m):m<201:=by
 rcases h with⟨rfl,rfl,rfl⟩|⟨lo,hi,_,_,_,rfl,_,_,h⟩
 ·decide
 ·exact h
theorem Spelt.at{ns:List Int}(h:Spelt ns b zs m)(hb:2<=b){x:Int}{z:Nat}(hx:ns[i]? = some x)(hz:zs[i]? = some z):z<b ^ m/\∀lo,lo∈ns->(∀y∈ns,lo<=y)->x - lo=z:=by
 rcases h with⟨rfl,rfl,rfl⟩|⟨lo,hi,h1,h2,h3,rfl,h4,h5,h6⟩
 ·simp at hx
 ·rw[DX,hx]at hz
  have ez:(x - lo).toNat=z:=Er hz;have hm:=h3 x (Ew hx);refine⟨by lia,λlo' g1 g2=>?_⟩;have a1:=g2 lo h1;have a2:=(h3 lo' g1).1;lia
section
variable{X:Cx}{e:Expr}{te:TE}{g:TG}{pos tpos:Pos}{ts:List Expr}{k:Nat}
theorem da(he:QE X e te)(hg:QG X (.Tuple ts k tpos) g)(hs:O8 [.Tuple ts k tpos] e pos.line X.env=pure false:=by rfl)(hw:O9 [.Tuple ts k tpos] e X.env=pure none:=by rfl)
  (h1:(OJ [.Tuple ts k tpos] X.env).map (·.2)=[assign (.Tuple ts k tpos) X.env]:=by rfl):QS X (.Assign [.Tuple ts k tpos] e pos) (nC te g):=⟨oO he.out hg.out hs hw h1⟩
end
section
variable{K:DU}{σ:St}{H:Hp}
theorem pS{p:Addr}{x:V}{R:St->Hp->Prop}(e:H p=some (.lst [x,y]))(h:R ((σ.set i (some x)).set j (some y)) H):yV K 2 (je (dk i) (je (dk j) yc)) (.ref p) σ H R:=
 ⟨p,_,rfl,Od e,rfl,_,_,rfl,_,_,rfl,rfl,h⟩
end
theorem iT{i:Int}(e:i=j)(h:j<n):ixN n i=some j:=by
 subst e;unfold ixN;rw[if_pos ⋯,if_pos ⋯];simp
noncomputable def bP(tb:List (Int×Nat)):List Int:=tb.map λz=>z.1*((dF (tb.map (·.2)) / z.2:Nat):Int)
theorem bK(tb:List (Int×Nat)):(bP tb).length=tb.length:=by simp[bP]
theorem pT{tb:List (Int×Nat)}(hb:∀z∈tb,1<=z.2/\z.2<=60)(ht:∀z∈tb,-(10 ^ 18)<z.1/\z.1<10 ^ 18):∀x∈bP tb,-(2 ^ 190)<x/\x<2 ^ 190:=by
 intro x hx;obtain⟨z,hz,rfl⟩:=D4.mp hx;have h1:=ht z hz;have hM:dF (tb.map (·.2))∣xJ:=yW λb h=>by
  obtain⟨y,hy,rfl⟩:=D4.mp h;exact hb y hy
 have h2:dF (tb.map (·.2))<=xJ:=HM (by decide +kernel) hM;have h3:xJ<2 ^ 90:=by decide +kernel
 have h4:dF (tb.map (·.2)) / z.2<=dF (tb.map (·.2)):=L9 _ _;generalize dF (tb.map (·.2)) / z.2=c at h4;have h5:c<2 ^ 90:=by lia
 have h6:z.1.natAbs<2 ^ 60:=by lia
 have h7:(z.1*(c:Int)).natAbs<2 ^ 150:=by
  rw[Int.natAbs_mul,Int.natAbs_natCast]
  calc z.1.natAbs*c<2 ^ 60*2 ^ 90:=Nat.mul_lt_mul'' h6 h5
   _=2 ^ 150:=by decide
 lia
theorem pU:∀{xs:List V}{us:List Value},xs.length=us.length->(∀(i:Nat) x u,xs[i]? = some x->us[i]? = some u->RelV x u)->Vals xs us
 | [],[],_,_=>.nil
 | [],_::_,h,_=>by simp at h
 | _::_,[],h,_=>by simp at h
 | x::xs,u::us,h,r=>.cons (r 0 x u rfl rfl) (pU (by simpa using h) λi y v a b=>r (i+1) y v (by simpa using a) (by simpa using b))
section
variable{X:Cx}{a b e o:Expr}{es:List Expr}{t:TA}{te to tb:TE}{p p2 pos pos2 apos cpos tpos:Pos}
noncomputable def iF(lo n:Nat):List V:=(DZ n).map λi=>Of ((lo+i:Nat):Int)
def uI(t:TA):TE:=λσ H Q=>t σ H λvs H1=>∃j:Nat,vs=[.int j]/\j<=1000/\∀l,H1 l=none->Q (.ref l) (upd H1 l (.lst (iF 0 j)))
theorem Dz{H:Hp}{s:Shared}{Q:VK}{t u v:Tok}(hc:X.calm=true)(I:Inv X pins σ H s)(h1:i<=1000)(h2:j<=1000)(h3:i<=j)(q:∀l,H l=none->Q (.ref l) (upd H l (.lst (iF i (j - i))))):
  wpAny (model X.prog X.w) X.A (call (.type "list") [.ref s.heap.objs.size]) (EP X pins σ Q) X.xe { s with heap:=s.heap.push { cls:=.type "range",data:=.fields #[.int i t,.int j u,.int 1 v] },toks:=tk }:=by
 have I1:Inv X pins σ H { s with heap:=s.heap.push { cls:=.type "range",data:=.fields #[.int i t,.int j u,.int 1 v] },toks:=tk }:=I.kept λb o e=>DV _ e
 refine call_list_range (n:=j - i) (I.ok.hd hc) (J9 ..) (small_one ⋯ ⋯ ⋯ ⋯) (by rw[rangeSize_one];split<;>lia) ⋯ λh' tk' acc' c' hk hg hi=>?_
 obtain⟨hz,hit⟩:=hi;refine⟨.ref _,_,I1.laid (t':=tk') (o:=.lst (iF i (j - i))) hk (DY _) ?_,rfl,q _ (I1.hok.fresh (DY _))⟩;refine⟨by simp only[iF,DT,Ff];exact aF ⋯,acc'.toList,c',?_,?_⟩
 ·refine pU (by simp[iF,hz]) λk x w a b=>?_
  have hk':k<j - i:=by have:=(D6.mp a).1;simpa [iF]using this
  unfold iF at a;rw[DX,EX hk']at a;obtain rfl:=Er a;obtain⟨tt,rfl⟩:=hit k w (by simpa using b);refine⟨tt,?_⟩;rw[Np,Int.natCast_add]
 ·simpa using hg
theorem jx (hc:X.calm=true) (hgl:Gl X "list") (hml:X.mg "list" = none) (hgr:Gl X "range") (hmr:X.mg "range" = none) (ha:QA X [a] t) (hn:bS a=true:=by rfl):QE X (.Call (.Name "list" p) [.Call (.Name "range" p2) [a] [] pos2] [] pos) (uI t):=by
 refine⟨λpins s σ H Q I h=>?_⟩;refine Call_ (de I hgl hml (by decide +kernel:bootBuiltins "list" = some (.type "list")) (EY ?_ (aM rfl) rfl));refine GI (Call_ (de I hgr hmr boot_range (EY (thn (ha.out pos2 pins s σ H _ I h) λus s1 ⟨vs,H1,I1,r1,q1⟩=>?_) (aM hn) rfl)));obtain⟨j,e,q1,q⟩:=q1;subst e;cases r1 with
 | cons r rr=>
  cases rr;obtain⟨tt,rfl⟩:=r;exact call_range_1 (Hx (Dz (i:=0) hc I1 ⋯ q1 ⋯ q))
inductive TyB (H:Hp):V->Value->Prop where
 | non:TyB H .non (.type "NoneType")
 | int (i:Int):TyB H (.int i) (.type "int")
 | lst {a:Addr}{xs:List V}(e:H a=some (.lst xs)):TyB H (.ref a) (.type "list")
 | tup {a:Addr}{xs:List V}(e:H a=some (.tup xs)):TyB H (.ref a) (.type "tuple")
def y0 (K:DU):RC:=λxs H Q=>∃x t tp b,xs=[x,.ref tp]/\H tp=some (.tup [.ty "list",.ty "tuple"])/\TyB H x t/\Mn K t [.type "list",.type "tuple"]=some b/\Q (.bl b) H
theorem wa {K:DU}(hK:X.K=K:=by rfl):QC X (.builtin "isinstance") (y0 K):=by
 subst hK;refine⟨λpins s σ H xs us Q I r h=>?_⟩;obtain⟨x,t,tp,b,rfl,htp,ty,e,q⟩:=h;cases r with
 | cons rx rr=>
  cases rr with
  | cons ry rr=>
   cases rr;cases ry;obtain⟨_,its,rv,⟨⟨c,dd,dt,sl⟩,g1,g2,n,g3⟩⟩:=(show ObjOk X.prog X.w H s.heap tp (.tup [.ty "list",.ty "tuple"])from I.hok tp _ htp);have g2':c=.type "tuple":=g2;have g3':dt=.seq its.toArray n:=g3;subst g2' g3';have ei:its=[.type "list",.type "tuple"]:=by
    cases rv with
    | cons r1 rr=>
     cases rr with
     | cons r2 rr=>
      cases rr;cases r1;cases r2;rfl
   subst ei;have fin:∀tk,EP X pins σ Q (.bool b) { s with toks:=tk }:=λtk=>⟨.bl b,H,I.tok _,rfl,q⟩
   cases ty with
   | non=>cases(show _=EN from rx);exact Fy Jh I.kIn D3 g1 e (λz=>nomatch z) fin
   | int i=>obtain⟨tt,rfl⟩:=rx;exact Fy Jw I.kIn D3 g1 e (λz=>nomatch z) fin
   | @lst a xs ea=>
    cases rx;obtain⟨_,_,n',_,h1⟩:=(show ObjOk X.prog X.w H s.heap a (.lst xs)from I.hok a _ ea);exact Fy Hw I.kIn ⟨_,h1,rfl⟩ g1 e (λz=>nomatch z) fin
   | @tup a xs ea=>
    cases rx;obtain⟨_,_,_,⟨o',h1,h2,_⟩⟩:=(show ObjOk X.prog X.w H s.heap a (.tup xs)from I.hok a _ ea);exact Fy IK I.kIn ⟨_,h1,h2⟩ g1 e (λz=>nomatch z) fin
def CZ:R2:=λx y H Q=>y=.non/\Q (.bl (decide (x=.non))) H
theorem gj:QOp X (OC .Is) CZ:=⟨yq⟩
end
section
variable{K:DU}{σ:St}{H:Hp}{Q:VK}
theorem Aw{t:TA}(h:t σ H λvs H1=>∃j:Nat,vs=[.int j]/\j<=1000/\∀l,H1 l=none->Q (.ref l) (upd H1 l (.lst (iF 0 j)))):uI t σ H Q:=h
theorem sH {p:Addr}(s:H p=some (.lst xs)) (e:H tp=some (.tup [.ty "list",.ty "tuple"])) (h:Q (.bl true) H):y0 K [.ref p,.ref tp] H Q:=⟨_,_,tp,_,rfl,e,.lst s,rfl,h⟩
theorem mG {p:Addr}(s:H p=some (.lst xs)) (h:Q (.bl false) H):mi K [.ref p,.ty "tuple"] H Q:=⟨_,_,_,_,rfl,.lst s,rfl,h⟩
theorem Ax {i:Int}(h:Q (.bl false) H):mi K [.int i,.ty "str"] H Q:=⟨_,_,_,_,rfl,.int i,rfl,h⟩
theorem C0{x y:Bool}(h:Q (.bl (!decide (Og x=Og y))) H):rNe (.bl x) (.bl y) H Q:=⟨rfl,h⟩
theorem BL{x:V}(h:Q (.bl (decide (x=.non))) H):CZ x .non H Q:=⟨rfl,h⟩
end
def Tp2(H:Hp)(p:Addr):Prop:=∃a b:Int,H p=some (.lst [.int a,.int b])/\0<=a/\0<=b
structure St2 (p:Addr) (H H':Hp):Prop where
 keep:∀q o,H q=some o->q≠p->H' q=some o
 tape:Tp2 H' p
section
variable{H H1 H2:Hp}{p q l:Addr}{o:HO}
theorem St2.refl(t:Tp2 H p):St2 p H H:=⟨λ_ _ h _=>h,t⟩
theorem St2.trans(a:St2 p H H1)(b:St2 p H1 H2):St2 p H H2:=⟨λq o h n=>b.keep q o (a.keep q o h n) n,b.tape⟩
theorem Tp2.mk{a b:Int}(h:0<=a)(h2:0<=b):St2 p H (upd H p (.lst [.int a,.int b])):=⟨λq o e n=>by rw[aB n];exact e,⟨a,b,aj,h,h2⟩⟩
theorem Tp2.ne(t:Tp2 H p)(h:H q=none):q≠p:=by
 obtain⟨a,b,e,_⟩:=t;exact λz=>ay e h z.symm
theorem Tp2.own(t:Tp2 H p)(n:l≠p):Tp2 (upd H l o) p:=by
 obtain⟨a,b,e,q⟩:=t;exact⟨a,b,by rw[aB (E5 n)];exact e,q⟩
theorem St2.new(a:St2 p H H1)(h:H1 q=none):St2 p H (upd H1 q o):=⟨λb u e1 e2=>by rw[aB (ay (a.keep b u e1 e2) h)];exact a.keep b u e1 e2,a.tape.own (a.tape.ne h)⟩
theorem St2.own(a:St2 p H H1)(h:H l=none)(n:l≠p):St2 p H (upd H1 l o):=⟨λb u e1 e2=>by rw[aB (ay e1 h)];exact a.keep b u e1 e2,a.tape.own n⟩
theorem St2.free(s:St2 p H H1)(h:H1 q=none):H q=none:=by
 cases e:H q with
 | none=>rfl
 | some o=>
  have:=s.keep q o e (s.tape.ne h);rw[h]at this;cases this
end
def wb(K:DU):Sp:=λvs H Q _=>∃(a:Addr) (ns:List Int) (k:Int),vs=[.ref a,.int k]/\SqL K H a (ns.map Of)/\0<=k/\∀p H',H p=none->Same H H'->Tp2 H' p->Q (.ref p) H'
def wc:Sp:=λvs H Q _=>∃(p:Addr) (m:Int),vs=[.ref p,.int m]/\Tp2 H p/\0<m/\m<2 ^ 64/\∀(r:Nat) H',(r:Int)<m->St2 p H H'->Q (.int r) H'
noncomputable def NV(os:List Nat):List V:=os.map λo:Nat=>Of o
theorem aC(os:List Nat):(NV os).length=os.length:=by simp[NV]
theorem iU(os:List Nat):NV os=(os.map λo:Nat=>(o:Int)).map Of:=by rw[NV,ED];rfl
theorem fe{os:List Nat}{o:Nat}(h:os[i]? = some o):(NV os)[i]? = some (Of o):=by rw[NV,DX,h];rfl
theorem gm{os:List Nat}{o:Nat}{k:Int}(e:k=i)(h:os[i]? = some o):atI (NV os) k=some (Of o):=by rw[e];exact bg (fe h)
theorem bU(os:List Nat)(o:Nat):NV os++[Of o]=NV (os++[o]):=by simp[NV]
theorem jy(lo n:Nat):iF lo n=NV ((DZ n).map λi=>lo+i):=by simp[iF,NV]
def LsAt(H:Hp)(ps:List Addr)(nss:List (List Nat)):Prop:=ps.length=nss.length/\∀(i:Nat) p ns,ps[i]? = some p->nss[i]? = some ns->H p=some (.lst (NV ns))
section
variable{H H1:Hp}{ps:List Addr}{nss:List (List Nat)}
theorem LsAt.same(h:LsAt H ps nss)(e:Same H H1):LsAt H1 ps nss:=⟨h.1,λi p z a c=>e _ _ (h.2 i p z a c)⟩
theorem LsAt.snoc{p:Addr}{ns:List Nat}(h:LsAt H ps nss)(e:H p=some (.lst (NV ns))):LsAt H (ps++[p]) (nss++[ns]):=by
 refine⟨by simp[h.1],λi q y a c=>?_⟩;rcases aX a with⟨l,a⟩|⟨l,a⟩
 ·rcases aX c with⟨_,c⟩|⟨l',c⟩
  ·exact h.2 i q y a c
  ·have:=h.1;lia
 ·rcases aX c with⟨l',c⟩|⟨_,c⟩
  ·have:=h.1;lia
  ·rw[a,c];exact e
theorem LsAt.nil:LsAt H [] []:=⟨rfl,λi p ns h=>by simp at h⟩
theorem LsAt.some(h:LsAt H ps nss){p:Addr}(hp:p∈ps):∃ns,ns∈nss/\H p=Option.some (.lst (NV ns)):=by
 obtain⟨i,hi,rfl⟩:=Gn.mp hp;have hi2:i<nss.length:=by rw[<-h.1];exact hi
 exact⟨nss[i],D1 hi2,h.2 i ps[i] nss[i] (by simp[hi]) (by simp[hi2])⟩
end
noncomputable def few(met:List Bool):Nat:=met.count false
theorem pV{xs:List Nat}(hn:xs.Nodup)(hi:i<xs.length)(hj:j<xs.length)(e:xs[i]=xs[j]):i=j:=by
 rcases Fn i j with h|h|h
 ·exact absurd e (EL.mp hn i j hi hj h)
 ·exact h
 ·exact absurd e.symm (EL.mp hn j i hj hi h)
theorem mH(os:List Nat)(i o:Nat):(NV os).set i (Of o)=NV (os.set i o):=by simp[NV,Nc]
section
variable{X:Cx}{e:Expr}{te:TE}{pos p1 p2 p3 p4 p5:Pos}{j j':Nat}
end
structure Ord (os:List Nat) (n:Nat):Prop where
 len:os.length=n
 lt:∀x∈os,x<n
 inj:∀(i j r:Nat),os[i]? = some r->os[j]? = some r->i=j
 sur:∀x,x<n->∃i,i<n/\os[i]? = some x
theorem Ord.of_perm{os:List Nat}(h:os.Perm (DZ n)):Ord os n:=by
 have hl:os.length=n:=by have:=h.length_eq;rw[Ff]at this;exact this
 refine⟨hl,λx hx=>EF.mp (h.mem_iff.mp hx),λi j r a b=>?_,λx hx=>?_⟩
 ·obtain⟨a1,a2⟩:=D6.mp a
  obtain⟨b1,b2⟩:=D6.mp b;exact pV (h.nodup_iff.mpr HU) a1 b1 (by rw[a2,b2])
 ·obtain⟨i,hi⟩:=GY (h.mem_iff.mpr (EF.mpr hx))
  exact⟨i,by have:=(D6.mp hi).1;lia,hi⟩
theorem Ord.get{os:List Nat}(h:Ord os n)(hi:i<n):∃r,os[i]? = some r/\r<n:=by
 have hl:i<os.length:=by rw[h.len];exact hi
 exact⟨os[i],by simp[hl],h.lt _ (D1 hl)⟩
noncomputable def cmp(one other:List Nat):List Nat:=other.map λj=>one.getD j 0
theorem lp{one other:List Nat}{r:Nat}(h1:other[i]? = some j)(h2:one[j]? = some r):(cmp one other)[i]? = some r:=by
 unfold cmp;rw[DX,h1];show some (one.getD j 0)=some r
 rw[DS,h2];rfl
theorem eG(one other:List Nat):(cmp one other).length=other.length:=by simp[cmp]
theorem br{α:Type}{xs:List α}{x:α}(h:xs[i]? = some x):i<xs.length:=(D6.mp h).1
section
variable{X:Cx}{N tgs frs:List Str}{ix:List Nat}{scope:Scope}{cl:List (Str×Addr)}
def kh(wi:TI)(g:TG)(tc:TT)(te:TE)(tgs:List Str)(ix:List Nat):TE:=λσ H Q=>wi σ H λJ H1=>
 ∃W:Nat->Nat->List V->St->Hp->Prop,(∃m,W 0 m [] (cQ tgs ix σ) H1)/\∀i m xs σc H,W i m xs σc H->xs.length<Ox/\
  ((J.stop i H/\∀p,H p=none->Q (.ref p) (upd H p (.lst xs)))\/(J.go i H/\∀x H',J.yld i H x H'->g x σc H' λσ2 H2=>tc σ2 H2 λb H3=>if b=true then te σ2 H3 λy H4=>∃m',m'<m/\W (i+1) m' (xs++[y]) σ2 H4 else ∃m',m'<m/\W (i+1) m' xs σ2 H3))
theorem sI{te:TE}(c:CompOk X N tgs frs ix scope cl)(hc:X.calm=true)(hi:PI X tg iter wi)
  (hg:∀fp C s H,PG (bc X N scope cl fp C s H) tg g) (he:∀fp C s H,PE (bc X N scope cl fp C s H) elt te)
  (hcd:∀fp C s H,PT (bc X N scope cl fp C s H) cnd tc)
  (hs:∀x,Oz iter X.env x=pure x:=by intro _;rfl) :
  PE X (.ListComp elt [⟨tg,iter,[cnd],0⟩] scope pos) (kh wi g tc te tgs ix):=me (oc:=some cnd) (tb:=tbF tc te) c hc hi hg (λfp C s H=>.ts (hcd fp C s H) (he fp C s H)) hs
theorem mI{te:TE}(c:CompOk X N tgs frs ix scope cl)(hc:X.calm=true)(hi:QI X tg iter wi)
  (hg:∀fp C s H,QG (bc X N scope cl fp C s H) tg g) (he:∀fp C s H,QE (bc X N scope cl fp C s H) elt te) (hcd:∀fp C s H,QT (bc X N scope cl fp C s H) cnd tc)
  (hs:∀x,Oz iter X.env x=pure x:=by intro _;rfl) :
  QE X (.ListComp elt [⟨tg,iter,[cnd],0⟩] scope pos) (kh wi g tc te tgs ix):=⟨sI c hc hi.out (λfp C s H=>(hg fp C s H).out) (λfp C s H=>(he fp C s H).out) (λfp C s H=>(hcd fp C s H).out) hs⟩
end
section
variable{X:Cx}{e o b:Expr}{to tb te:TE}{t:TA}{pos apos cpos tpos:Pos}
theorem nX {K:DU}(ho:QE X o to) (hbase:attributeBase o ("reverse" : Str) X.env (eval o X.env)=eval o X.env:=by rfl) (hline:(apos.endLine == cpos.line)=true:=by rfl) (hK:X.K=K:=by rfl) :
  QE X (.Call (.Attribute o "reverse" apos) [] [] cpos) (Ao K "list" l9 to):=by subst hK;exact⟨uz FI PySem.F.slot_list_reverse PySem.F.type_list_reverse nO ho.out hbase hline⟩
theorem pW {K:DU}(ho:QE X o to) (hbase:attributeBase o ("pop" : Str) X.env (eval o X.env)=eval o X.env:=by rfl) (hline:(apos.endLine == cpos.line)=true:=by rfl) (hK:X.K=K:=by rfl) :
  QE X (.Call (.Attribute o "pop" apos) [] [] cpos) (Ao K "list" Bj to):=by subst hK;exact⟨uz FI PySem.F.slot_list_pop PySem.F.type_list_pop yD ho.out hbase hline⟩
theorem gX {K:DU}(ho:QE X o to) (ha:QA X [e] t) (hbase:attributeBase o ("extend" : Str) X.env (eval o X.env)=eval o X.env:=by rfl) (hline:(apos.endLine == cpos.line)=true:=by rfl) (hn:bS e=true:=by rfl) (hK:X.K=K:=by rfl) :
  QE X (.Call (.Attribute o "extend" apos) [e] [] cpos) (tBM K "list" k8 to t):=by subst hK;exact⟨mf FI JB JC pv ho.out ha.out hbase hline hn⟩
end
theorem nY{M:Model}{A:Around}{E:Value->Shared->Prop}{s:Shared}{globals:Addr}{closure:List (Str×Addr)}{func:Option Addr}{code:Value}{around:Option Env}{builtins:Addr}{Q:Env->Shared->Prop}
  (hc:∀n,cellsFrom n scope.names closure=(x,n)::closure) (hp:∀h,pushCells h scope.names=h.push { cls:=.type "cell",data:=.cell none })
  (hQ:Q (newEnv scope s.heap.objs.size globals ((x,s.heap.objs.size+1)::closure) qual func code around builtins) { s with heap:=(s.heap.push { cls:=.type (if around.isSome then "dict" else "frame"),data:=.dict #[] }).push { cls:=.type "cell",data:=.cell none } }) :
  wpAny M A (newFunctionEnv scope globals closure [] qual func code around builtins) Q E s:=by
 simp only[newFunctionEnv];refine Ov (wpAny_alloc ?_);refine Ov (wpAny_layCells _ (λa b c=>by cases e:b == Oc<;>simp[e]) _ _ _ _ ?_);rw[hc,hp];rw[show({ s with heap:=s.heap.push { cls:=.type (if around.isSome then "dict" else "frame"),data:=.dict #[] } }:Shared).heap.objs.size=s.heap.objs.size+1 from FO ..];refine Ov ?_;rw[IE];exact Ow (Ow hQ)
noncomputable def cg(X:Cx)(N:List Str)(scope:Scope)(cl:List (Str×Addr))(xc:Str)(fp:List Addr)(C:Addr)(s:Shared)(H:Hp):Cx:=
 { X with N:=N,s₀:=s,H₀:=H,env:=compEnvC scope ((xc,C+1)::cl) C X.env,outer:=X.stack,ex:=fp,fn:=λy=>y == xc,pn:=[],xe:=λ_ _=>False }
structure CompOkC (X:Cx) (N tgs frs:List Str) (ix:List Nat) (scope:Scope) (cl:List (Str×Addr)) (xc:Str):Prop where
 clos:closureFor scope X.env=pure cl
 cells:∀n,cellsFrom n scope.names cl=(xc,n)::cl
 push:∀h,pushCells h scope.names=h.push { cls:=.type "cell",data:=.cell none }
 kind:scope.kind=.function
 names:∀y∈scope.names,y.2=.local->scope.names.lookup y.1=some .local
 nm:N=tgs++frs
 ixs:ix.map (X.N[·]?)=frs.map some
 fr:FrOk X scope cl frs
 nx:xc∉frs
 cls:ClOk X cl
 has:(relabel scope X.env).names.all (λp=>!(p.2 == .cell || p.2 == .free) || (p.1 == xc || (cl.lookup p.1).isSome))=true
theorem gY{y:Str}{c:Addr}{cl:List (Str×Addr)}(h:((x,c)::cl).lookup y=some a):(y=x/\a=c)\/(y≠x/\cl.lookup y=some a):=by
 rw[Gz]at h;cases e:y == x with
 | true=>rw[e]at h;exact .inl ⟨eq_of_beq e,(Er h).symm⟩
 | false=>rw[e]at h;exact .inr ⟨ne_of_beq_false e,h⟩
section
variable{X:Cx}{N tgs frs:List Str}{ix:List Nat}{scope:Scope}{cl:List (Str×Addr)}{xc:Str}
theorem lq(nm:N=tgs++frs)(ixs:ix.map (X.N[·]?)=frs.map some)(h1:N[i]? = some x)(h2:(cQ tgs ix σ)[i]? = some (some v)):x∈frs/\∃j:Nat,X.N[j]? = some x/\σ[j]? = some (some v):=by
 unfold cQ at h2;by_cases hi:i<tgs.length
 ·rw[Ek (by simpa using hi),F1,if_pos hi]at h2
  cases h2
 ·rw[EE (by simpa using hi),Fz,DX]at h2
  rw[nm,EE ⋯]at h1;have e:=congrArg (·[i - tgs.length]?) ixs;simp only[DX,h1]at e;cases q:ix[i - tgs.length]? with
  | none=>rw[q]at e;cases e
  | some j=>
   rw[q]at e h2;simp only[JT,Ln]at e h2;refine⟨Ew h1,j,e,?_⟩;cases z:σ[j]? with
   | none=>rw[z]at h2;cases h2
   | some o=>rw[z]at h2;simp at h2;rw[h2]
theorem CompOkC.hasOf(c:CompOkC X N tgs frs ix scope cl xc){C:Addr}(h:(relabel scope X.env).names.lookup x=some .cell\/(relabel scope X.env).names.lookup x=some .free):∃a,((xc,C+1)::cl).lookup x=some a:=by
 have all:=FM.mp c.has;have key:x == xc\/(cl.lookup x).isSome=true:=by
  rcases h with h|h
  ·have q:=all _ (dS h)
   simpa only[beq_self_eq_true,Jy,GF,HK,JZ]using q
  ·have q:=all _ (dS h)
   simpa only[beq_self_eq_true,K2,GF,HK,JZ]using q
 rw[Gz];cases e:x == xc with
 | true=>exact⟨_,rfl⟩
 | false=>
  rcases key with k|k
  ·rw[e]at k;cases k
  ·exact Gv.mp k
theorem pX{H:Hp}{s2:Shared}{h1:Heap}{C:Addr}{m:Str->Option Value}(c:CompOkC X N tgs frs ix scope cl xc)(I:Inv X pins σ H s2)(hf:∀b∈fp,oF X pins H b)(hfl:∀b∈fp,b<s2.heap.objs.size)
  (hC:s2.heap.objs.size<=C) (hns:h1.Ns C m) (hk:∀b o,s2.heap.get? b=some o->h1.get? b=some o) (hcel:h1.IsCell (C+1) none){pins':List (Addr×Obj)}
  (hpin:∀p∈pins',h1.get? p.1=some p.2/\s2.heap.objs.size<=p.1/\p.1≠C/\∀v,p.2.data≠.cell v) :
  Inv (cg X N scope cl xc fp C s2 H) pins' (cQ tgs ix σ) H { s2 with heap:=h1,toks:=tk }:=by
 have hcn:∀x a,cl.lookup x=some a->X.env.cells.lookup x=some a:=c.cls.get
 have clt:∀x a,cl.lookup x=some a->a<s2.heap.objs.size:=λx a e=>by
  obtain⟨v,q⟩:=I.cell x a (hcn x a e);exact q.lt
 have hcl2:∀x a,((xc,C+1)::cl).lookup x=some a->(x=xc/\a=C+1)\/(X.env.cells.lookup x=some a/\a<s2.heap.objs.size):=λx a e=>by
  rcases gY e with h|⟨_,h⟩
  ·exact .inl h
  ·exact .inr ⟨hcn x a h,clt x a h⟩
 have hC1:s2.heap.objs.size<=C+1:=Lq hC;refine⟨⟨I.ok.mod,c.kind,I.ok.glob,I.ok.blt,hC,λx y a h1 h2=>by
   rcases hcl2 x a h1 with⟨e1,e2⟩|⟨e1,e2⟩
   ·rcases hcl2 y a h2 with⟨g1,g2⟩|⟨g1,g2⟩
    ·rw[e1,g1]
    ·exact absurd g2 (by rw[e2];exact HV hC1)
   ·rcases hcl2 y a h2 with⟨g1,g2⟩|⟨g1,g2⟩
    ·exact absurd e2 (by rw[g2];exact HV hC1)
    ·exact I.ok.inj x y a e1 g1,λx hx=>c.hasOf hx,(λx a z e=>by
   rcases hcl2 x a e with⟨_,e2⟩|⟨e1,e2⟩
   ·rw[e2];exact hC1
   ·have hx:x=xc:=eq_of_beq z
    subst hx;have h9:((x,C+1)::cl).lookup x=some (C+1):=by simp
    have h8:=h9.symm.trans e;rw[<-Er h8];exact hC1),I.ok.hd,I.ok.frames,.inl rfl,λb hb=>⟨?_,λx a e=>?_⟩,I.bs,ET I.ok.bsz I.sz,λb o e hb=>?_,λb hb z=>?_,I.stack,I.stkFree⟩,
  rfl,I.bare,Un.kept hk,⟨m,hns,λi x v e1 e2 e3=>?_⟩,λx a e=>?_,I.hok.fresh hC,λx a e=>by
   rcases hcl2 x a e with⟨_,e2⟩|⟨e1,e2⟩
   ·rw[e2];exact I.hok.fresh hC1
   ·exact I.freeC x a e1,λp hp=>?_,I.hok.kept hk,?_⟩
 ·exact Eh (El (hfl b hb) hC)
 ·rcases hcl2 x a e with⟨_,e2⟩|⟨e1,e2⟩
  ·rw[e2];exact EU (El (hfl b hb) hC1)
  ·exact(hf b hb).2.2.2.2.1 x a e1
 ·rcases(hf b hb).2.2.2.1 with z|z
  ·exact I.ok.noex b o e z
  ·exact absurd (El (D2 (I.ok.bs b o e).1) z) (E9 _)
 ·rcases Eb.mp (I.stkSub b z)with e|e
  ·exact(hf b hb).2.1 e
  ·exact(hf b hb).2.2.1 e
 ·obtain⟨hx,j,n1,n2⟩:=lq c.nm c.ixs e1 e2
  obtain⟨k1,k2,a,l1,l2⟩:=c.fr.mem x hx;obtain⟨m',_,hl⟩:=I.loc;obtain⟨u,r,l⟩:=hl j x v n1 n2 (.inr (.inl k1));refine⟨u,r,.inr ⟨.inl k2,a,(by
   have hne:x≠xc:=λe=>c.nx (e▸hx)
   show((xc,C+1)::cl).lookup x=some a
   rw[Gz,beq_false_of_ne hne];exact l1),?_⟩⟩
  rcases l with⟨l,_⟩|⟨_,a',l3,o,l4,l5⟩
  ·rw[k1]at l;cases l
  ·rw[l2]at l3;cases l3
   exact⟨o,hk _ _ l4,l5⟩
 ·rcases hcl2 x a e with⟨_,e2⟩|⟨e1,e2⟩
  ·rw[e2];exact⟨none,hcel⟩
  ·obtain⟨v,o,q1,q2⟩:=I.cell x a e1
   exact⟨v,o,hk _ _ q1,q2⟩
 ·have hp':p∈pins':=by simpa [cg]using hp
  obtain⟨q1,q2,q3,q4⟩:=hpin p hp';exact⟨q1,I.hok.fresh q2,q3,λz=>by
   rcases Eb.mp (I.stkSub p.1 z)with e|e
   ·exact absurd (El I.lt q2) (by rw[e];exact E9 _)
   ·exact I.nofs q2 e,q4⟩
 ·show(cQ tgs ix σ).length=N.length
  unfold cQ;have e:=congrArg G7 c.ixs;simp only[DT]at e;rw[c.nm];simp[e]
theorem sJ{te:TE}(c:CompOkC X N tgs frs ix scope cl xc)(hc:X.calm=true)(hi:PI X tg iter wi)
  (hg:∀fp C s H,PG (cg X N scope cl xc fp C s H) tg g) (he:∀fp C s H,PE (cg X N scope cl xc fp C s H) elt te)
  (hs:∀x,Oz iter X.env x=pure x:=by intro _;rfl) :
  PE X (.ListComp elt [⟨tg,iter,[],0⟩] scope pos) (lg wi g te tgs ix):=by
 intro pins s σ H Q I h;rw[eval_ListComp];refine wpAny_comprehension_free (use:=none) rfl hs c.clos c.kind c.names (thn (hi pins s σ H _ I h) λxv s1 h1=>thn h1 λitv s2 h2=>?_);obtain⟨it,fp,tn,J,H2,rfl,I2,T,st2,f2,W,⟨m0,w0⟩,turn⟩:=h2;have hfl:∀b∈fp,b<s2.heap.objs.size:=λb hb=>by
  obtain⟨o,e,_⟩:=T.obj _ _ st2 b hb;exact D2 e
 have hcn:∀x a,cl.lookup x=some a->X.env.cells.lookup x=some a:=c.cls.get
 refine OB (nY c.cells c.push ?_);dsimp only;generalize hH2:s2.heap.push { cls:=.type "list",dict:=none,data:=.seq ([]:List Value).toArray }=G2;have hC:G2.objs.size=s2.heap.objs.size+1:=by rw[<-hH2,FO]
 have hns0:((G2.push { cls:=.type "dict",data:=.dict #[] }).push { cls:=.type "cell",data:=.cell none }).Ns G2.objs.size (λ_=>none):=(Heap.Ns.new G2 (.type "dict")).keeps λb o e=>DV _ e
 have hcel0:((G2.push { cls:=.type "dict",data:=.dict #[] }).push { cls:=.type "cell",data:=.cell none }).IsCell (G2.objs.size+1) none:=by
  have:=Ea (G2.push { cls:=.type "dict",data:=.dict #[] }) (o:={ cls:=.type "cell",data:=.cell none }) rfl;rw[FO]at this;exact⟨_,this,rfl⟩
 have old:∀b o,s2.heap.get? b=some o->((G2.push { cls:=.type "dict",data:=.dict #[] }).push { cls:=.type "cell",data:=.cell none }).get? b=some o:=λb o e=>DV _ (DV _ (hH2▸DV _ e))
 have hacc0:((G2.push { cls:=.type "dict",data:=.dict #[] }).push { cls:=.type "cell",data:=.cell none }).get? s2.heap.objs.size=some (cx [] 0):=DV _ (DV _ (hH2▸Ea _ rfl));show codeAny (model X.prog X.w) X.A (.compStart (.ListComp elt [⟨tg,iter,[],0⟩] scope pos) 0 (.ref it) (.ref s2.heap.objs.size) (compEnvC scope ((xc,G2.objs.size+1)::cl) G2.objs.size X.env)) (compPost (model X.prog X.w) X.A X.xe none (EP X pins σ Q) (.ref s2.heap.objs.size) G2.objs.size) { s2 with heap:=(G2.push { cls:=.type "dict",data:=.dict #[] }).push { cls:=.type "cell",data:=.cell none } }
 generalize (G2.push { cls:=.type "dict",data:=.dict #[] }).push { cls:=.type "cell",data:=.cell none }=h1 at hns0 hcel0 old hacc0 ⊢;generalize hCC:G2.objs.size=C at *;generalize hDD:s2.heap.objs.size=D at *;have hDC:D≠C:=by lia
 have hCle:D<=C:=by lia
 have hns1:=hns0;have hacc:=hacc0;have cellD:∀x a,X.env.cells.lookup x=some a->a<D:=λx a e=>by
  obtain⟨v,q⟩:=I2.cell x a e;exact hDD▸q.lt
 have fpc:∀{H':Hp}{us:List Value}{k:Nat},(∀b∈fp,H' b=none)->∀b∈fp,oF (cg X N scope cl xc fp C s2 H2) [(D,cx us k)] H' b:=λ{H' us k} hn b hb=>by
  have lb:=hfl b hb;refine⟨hn b hb,?_,λz=>?_,.inl hb,λx a e z=>?_,λp hp=>?_⟩
  ·exact Eh (El lb hCle)
  ·rcases Eb.mp (I2.stkSub b z)with e|e
   ·exact(f2 b hb).2.1 e
   ·exact(f2 b hb).2.2.1 e
  ·rcases gY e with⟨_,e2⟩|⟨_,e1⟩
   ·exact absurd z (by rw[e2];exact EU (El lb (Lq hCle)))
   ·exact(f2 b hb).2.2.2.2.1 x a (hcn x a e1) z
  ·have:p=(D,cx us k):=by simpa [cg]using hp
   rw[this];exact EU lb
 have D_fs:D∉(cg X N scope cl xc fp C s2 H2).fs:=λz=>by
  rcases Eb.mp (I2.stkSub D z)with e|e
  ·exact absurd I2.lt (by rw[<-e,hDD];exact E9 _)
  ·exact I2.nofs (Gy hDD) e
 have I3:=pX (tk:=s2.toks) (pins':=[(D,cx [] 0)]) c I2 f2 (λb hb=>hDD▸hfl b hb) (hDD▸hCle:s2.heap.objs.size<=C) hns1 old hcel0 (λp hp=>by
  have e:p=(D,cx [] 0):=by simpa using hp
  subst e;exact⟨hacc,Gy hDD,hDC,λv z=>by cases z⟩)
 have tn3:tn 0 h1:=T.keep _ _ _ st2 λb _ o e=>old b o e
 have loop:codeAny (model X.prog X.w) X.A (.compLoop (.ListComp elt [⟨tg,iter,[],0⟩] scope pos) 0 (.ref it) (.ref D) (compEnvC scope ((xc,C+1)::cl) C X.env))
   (compPost (model X.prog X.w) X.A X.xe none (EP X pins σ Q) (.ref D) C) { s2 with heap:=h1,toks:=s2.toks }:=by
  refine fX (λn s'=>∃i xs us k σc H',Inv (cg X N scope cl xc fp C s2 H2) [(D,cx us k)] σc H' s'/\tn i s'.heap/\(∀b∈fp,H' b=none)/\Vals xs us/\W i n xs σc H') ?_ m0
   ⟨0,[],[],0,_,H2,I3,tn3,λb hb=>(f2 b hb).1,.nil,w0⟩
  rintro n s4 ⟨i,xs,us,k,σ4,H4,I4,tn4,fr4,rv,w4⟩;obtain⟨hsz,tt⟩:=turn i n xs σ4 H4 w4;rcases tt with⟨stop,fin⟩|⟨go,step⟩
  ·refine thn (T.done (cg X N scope cl xc fp C s2 H2) rfl rfl rfl hc i _ s4 σ4 H4 _ I4 (fpc fr4) tn4 stop) λr s5 ⟨hr,I5⟩=>?_
   subst hr;obtain⟨m,ns,_⟩:=I5.loc;refine⟨m,ns,λh' sb=>?_⟩;have J1:Inv X pins σ H4 s5:=I2.call' I5.os I5.base I5.hok I5.bare λb hb=>⟨(f2 b hb).2.2.2.1,(f2 b hb).2.1,(f2 b hb).2.2.2.2.1,(f2 b hb).2.2.2.2.2⟩
   have big:∀a,D<=a->a≠X.env.locals/\(a∈X.ex\/X.s₀.heap.objs.size<=a)/\(∀x y,X.env.cells.lookup x=some y->y≠a)/\∀p∈X.pn++pins,p.1≠a:=λa ha=>by
    obtain⟨q0,q1,q2,q3,q4,q5⟩:=I2.fpOk (b:=a) (H':=λ_=>none) (hDD▸ha) rfl;exact⟨q1,q3,q4,q5⟩
   obtain⟨b1,b2,b3,b4⟩:=big C hCle;have J2:Inv X pins σ H4 { s5 with heap:=h' }:=J1.turned (t':=s5.toks) (λb o hb e=>sb.extBut b o hb e) I5.free b1 b2 b3 b4;obtain⟨p1,p2,p3,p4,p5⟩:=I5.pin (D,cx us k) (by simp);obtain⟨d1,d2,d3,d4⟩:=big D (DY _);have J3:Inv X pins σ (upd H4 D (.lst xs)) { s5 with heap:=h' }:=J2.adopt p2 d1 d2 d3 d4 ⟨Fv hsz,us,k,rv,sb.extBut _ _ hDC p1⟩;exact⟨.ref D,_,J3,rfl,fin D p2⟩
  ·refine thn (T.item (cg X N scope cl xc fp C s2 H2) rfl rfl rfl hc i _ s4 σ4 H4 _ I4 (fpc fr4) tn4 go) λr s5 ⟨u,hr,h5⟩=>?_
   subst hr;refine thn h5 λ_ s6 ⟨x,H6,I6,r6,y6,tn6,fr6⟩=>?_
   have I6':=I6.pinned (fpc fr6) (T.obj _ _ tn6);refine thn (hg fp C s2 H2 _ s6 σ4 H6 x u _ I6' r6 (step x H6 y6)) λ_ s7 ⟨σ7,H7,I7,q7⟩=>?_
   refine thn (he fp C s2 H2 _ s7 σ7 H7 _ I7 q7) λyv s8 ⟨y,H8,I8,r8,m',hm,w8⟩=>?_
   obtain⟨p1,p2,p3,p4,p5⟩:=I8.pin (D,cx us k) (by simp[cg]);have hsz':us.toArray.size<=Ox:=by simp;rw[<-rv.length];exact Fv hsz
   refine wpAny_list_append_plain (hsz:=hsz') ⟨k,p1⟩ λh' pl sb=>?_
   have tn8:tn (i+1) s8.heap:=T.keep _ _ _ tn6 λb hb o e=>(I8.pin (b,o) (Eg _ (Eg _ (cO hb e)))).1
   have fr8:∀b∈fp,H8 b=none:=λb hb=>by
    obtain⟨o,e,d⟩:=T.obj _ _ tn6 b hb;exact(I8.pin (b,o) (Eg _ (Eg _ (cO hb e)))).2.1
   have I9:Inv (cg X N scope cl xc fp C s2 H2) [] σ7 H8 s8:=I8.pins_of λp hp=>nomatch hp
   have I10:Inv (cg X N scope cl xc fp C s2 H2) [] σ7 H8 { s8 with heap:=h' }:=I9.turned (t':=s8.toks) (it:=D) (λb o hb e=>sb.extBut b o hb e) p2 p3 (.inr (Gy hDD))
    (λx a e=>by
     rcases gY e with⟨_,e2⟩|⟨_,e1⟩
     ·rw[e2];exact EU (Nat.lt_succ_of_le hCle)
     ·exact Eh (cellD x a (hcn x a e1))) (λp hp=>by simp[cg]at hp)
   obtain⟨k',pl⟩:=pl;have eu:us.toArray.push yv=(us++[yv]).toArray:=by simp
   rw[eu]at pl;have I11:Inv (cg X N scope cl xc fp C s2 H2) [(D,cx (us++[yv]) k')] σ7 H8 { s8 with heap:=h' }:=I10.pins_of λp hp=>by
    have e:p=(D,cx (us++[yv]) k'):=by simpa using hp
    subst e;exact⟨pl,p2,p3,p4,λv z=>by cases z⟩
   exact⟨m',hm,i+1,xs++[y],us++[yv],k',σ7,H8,I11,T.keep _ _ _ tn8 λb hb o e=>sb.extBut b o (Eh (hfl b hb)) e,fr8,rv.append (.cons r8 .nil),w8⟩
 exact codeAny_compStart_list loop (T.self _ 0 _ _ _ tn3 loop)
theorem sL{te:TE}(c:CompOkC X N tgs frs ix scope cl xc)(hc:X.calm=true)(hi:QI X tg iter wi)
  (hg:∀fp C s H,QG (cg X N scope cl xc fp C s H) tg g) (he:∀fp C s H,QE (cg X N scope cl xc fp C s H) elt te)
  (hs:∀x,Oz iter X.env x=pure x:=by intro _;rfl) :
  QE X (.ListComp elt [⟨tg,iter,[],0⟩] scope pos) (lg wi g te tgs ix):=⟨sJ c hc hi.out (λfp C s H=>(hg fp C s H).out) (λfp C s H=>(he fp C s H).out) hs⟩
end
section
variable{X:Cx}{e o b:Expr}{to tb te:TE}{pos tpos:Pos}
def y2(K:DU):R2:=λx y H Q=>∃a b xs,x=.ref a/\y=.ref b/\SqL K H a xs/\SqL K H b []/\Q (.bl (!decide (xs=[]))) H
theorem we{K:DU}(hu:X.A.units<cLine)(hK:X.K=K:=by rfl):QOp X (OC .NotEq) (y2 K):=by
 subst hK;refine⟨λpins s σ H x y v u Q I rx ry h=>?_⟩;obtain⟨a,b,xs,rfl,rfl,ha,hb,q⟩:=h;cases rx;cases ry;obtain⟨its,r1,p1,z1⟩:=I.list ha;obtain⟨its2,r2,p2,z2⟩:=I.list hb;have l1:its.toArray.size=xs.length:=by have:=r1.length;simp;lia
 have l2:its2.toArray.size=0:=by have:=r2.length;simp at this;simp[this]
 by_cases hx:xs=[]
 ·subst hx
  refine NR (e:=λ_=>true) p1.isList p2.isList (by rw[l1,l2];rfl) hu (λj h1 h2=>absurd h2 ⋯) X.prog X.w X.xe _ ?_;rw[l1];exact⟨.bl false,H,I,rfl,q⟩
 ·refine My p1.isList p2.isList (by rw[l1,l2];have:=Fm.mpr hx;simp;exact hx) hu X.prog X.w X.xe _ ?_
  rw[decide_eq_false hx]at q;exact⟨.bl true,H,I,rfl,q⟩
def y3(K:DU):V->V->Hp->VK->Prop:=λo i H Q=>∃a xs k v,o=.ref a/\i=.int k/\SqL K H a xs/\0<=k/\xs[k.toNat]? = some v/\Q v H
theorem sM:A1 X (y3 X.K):=by
 intro pins s σ H o i ov iv Q I ro ri h;obtain⟨a,xs,k,v,rfl,rfl,hq,h0,hv,q⟩:=h;cases ro;obtain⟨t,rfl⟩:=ri;obtain⟨its,r,pl,hz⟩:=I.list hq;obtain⟨w,ew,rw'⟩:=r.get hv;have hl:=br hv;have hn:=ee;exact wpAny_getItem_list pl.isList h0 ⋯ (by simpa using ew) ⟨v,H,I,rw',q⟩
theorem mJ{K:DU}(ho:QE X o to)(hi:QE X b tb)(he:QE X e te)(ha:∀ov iv new,augStore b ov iv new=(do OR [new,ov,iv] (setItem ov iv new);release [new,ov,iv] [];pure .next):=by intros;rfl)(hK:X.K=K:=by rfl):
  QS X (.AugAssign (.Subscript o b tpos) .Add e pos) (rJ to tb te (y3 K) (ipI λi j=>i+j) nM):=by subst hK;exact⟨oP ho.out hi.out sM he.out uo jg ha⟩
end
section
variable{K:DU}{σ:St}{H:Hp}{Q:VK}{D:Ends}
theorem BM{te:TE}{tget:V->V->Hp->VK->Prop}{tip:TIp}{tset:vq}(h:to σ H λo H1=>ti σ H1 λi H2=>tget o i H2 λx H3=>te σ H3 λy H4=>tip x y H4 λz H5=>tset o i z H5 λH6=>D.nx σ H6):rJ to ti te tget tip tset D σ H:=h
theorem C1{r:V->List V->Hp->VK->Prop}{T:String}(h:to σ H λx H1=>tyV K T x H1/\r x [] H1 Q):Ao K T r to σ H Q:=h
theorem Ay {te:TE}{tgs:List Str}{ix:List Nat}(h:wi σ H λJ H1=>
 ∃W:Nat->Nat->List V->St->Hp->Prop,(∃m,W 0 m [] (cQ tgs ix σ) H1)/\∀i m xs σc H,W i m xs σc H->xs.length<Ox/\
  ((J.stop i H/\∀p,H p=none->Q (.ref p) (upd H p (.lst xs)))\/(J.go i H/\∀x H',J.yld i H x H'->g x σc H' λσ2 H2=>tc σ2 H2 λb H3=>if b=true then te σ2 H3 λy H4=>∃m',m'<m/\W (i+1) m' (xs++[y]) σ2 H4 else ∃m',m'<m/\W (i+1) m' xs σ2 H3))):kh wi g tc te tgs ix σ H Q:=h
theorem kl{te:TE}{σ0:St}{R:List V->Hp->Prop}(Pv:Nat->List V->St->Hp->Prop)(hz:vs.length<Ox)(hl:∀i ys σ H,Pv i ys σ H->ys.length<=i)(ht:∀i ys σ H,Pv i ys σ H->SqL K H a vs)(h0:Pv 0 [] σ0 H)
  (hs:∀i ys σ H x,vs[i]? = some x->Pv i ys σ H->g x σ H λσ2 H2=>tc σ2 H2 λb H3=>if b=true then te σ2 H3 λy H4=>Nx vs.length i (Pv (i+1) (ys++[y]) σ2 H4)else Nx vs.length i (Pv (i+1) ys σ2 H3)) (hd:∀ys σ H,Pv vs.length ys σ H->R ys H) :
  ∃W:Nat->Nat->List V->St->Hp->Prop,(∃m,W 0 m [] σ0 H)/\∀i m xs σc H,W i m xs σc H->xs.length<Ox/\
  (((Itl K a).stop i H/\R xs H)\/((Itl K a).go i H/\∀x H',(Itl K a).yld i H x H'->g x σc H' λσ2 H2=>tc σ2 H2 λb H3=>if b=true then te σ2 H3 λy H4=>∃m',m'<m/\W (i+1) m' (xs++[y]) σ2 H4 else ∃m',m'<m/\W (i+1) m' xs σ2 H3)):=by
 refine⟨λi m xs σ H=>m=vs.length - i/\i<=vs.length/\Pv i xs σ H,⟨vs.length,by simp,Ec _,h0⟩,?_⟩;rintro i m xs σ H ⟨rfl,hi,p⟩;have q:=ht i xs σ H p;refine⟨E4 (ET (hl i xs σ H p) hi) hz,?_⟩;by_cases hlt:i<vs.length
 ·refine .inr ⟨⟨vs,vs[i],q,by simp[hlt]⟩,λx H' y=>?_⟩
  obtain⟨e,y⟩:=y;subst e;exact hs i xs σ _ x (y vs q) p
 ·have e:i=vs.length:=by lia
  subst e;exact .inl ⟨⟨vs,q,DY _⟩,hd xs σ H p⟩
end
noncomputable def cnt(os:List Nat)(b:Nat):List Nat:=(DZ b).map λf=>os.count f
theorem bF(os:List Nat)(b:Nat):(cnt os b).length=b:=by simp[cnt]
theorem cS{os:List Nat}{f:Nat}(h:f<b):(cnt os b)[f]? = some (os.count f):=by
 unfold cnt;rw[DX,EX h];rfl
theorem sN{os:List Nat}{x:Nat}(h:x<b):(cnt os b).set x (os.count x+1)=cnt (os++[x]) b:=by
 apply Jk;intro i;rw[Hy];by_cases hi:i<b
 ·rw[cS hi,cS hi,FZ,bF]
  by_cases e:x=i
  ·subst e;rw[if_pos rfl,if_pos h];simp
  ·rw[if_neg e]
   have:Ma i [x]=0:=FB.mpr (by simp;exact λz=>e z.symm);rw[this,Hm]
 ·rw[Fo (l:=cnt os b) (by rw[bF];lia),Fo (l:=cnt (os++[x]) b) (by rw[bF];lia)]
  split
  ·split
   ·rename_i h1 h2;rw[bF]at h2;lia
   ·rfl
  ·rfl
noncomputable def bD(rss:List (List Nat))(c:Nat):List Nat:=rss.map λr=>r.getD c 0
noncomputable def bt(rss:List (List Nat))(w b:Nat):List (List Nat):=(DZ (if rss=[]then 0 else w)).map λc=>cnt (bD rss c) b
theorem dH(rss:List (List Nat))(w b:Nat):(bt rss w b).length=if rss=[]then 0 else w:=by simp[bt]
theorem nZ{rss:List (List Nat)}{w:Nat}(h:i<if rss=[]then 0 else w):(bt rss w b).take (i+1)=(bt rss w b).take i++[cnt (bD rss i) b]:=by
 rw[D7];unfold bt;rw[DX,EX h];rfl
theorem pY(os:List Nat)(w:Nat)(h:w<=os.length):iA (NV os) none (some (w:Int))=NV (os.take w):=by
 unfold iA;rw[HT.dm,HT.l8,aC,Gd h,EB,Io];unfold NV;rw[Gi]
theorem y4(m:Nat):Fq ((m:Int) - 1) (-1) (-1)=m:=by
 unfold Fq;rw[if_neg (by decide)];split
 ·rw[show(-(-1):Int)=1 by decide,M6];lia
 ·lia
theorem y7(h:m<=1000):G8 ((m:Int) - 1) (-1) (-1)=true:=by
 unfold G8;rw[y4];simp only[GU,EH,JZ,decide_eq_true_eq,beq_iff_eq,show ¬((-1:Int) > 0)by decide,if_false];refine⟨?_,?_⟩<;>first|lia|(refine⟨?_,?_⟩<;>first|lia|(split<;>lia))|(split<;>lia)|trace_state
def Itd(m:Nat):It:=⟨λi _=>i<m,λi H x H'=>H'=H/\x=.int ((m - 1 - i:Nat):Int),λi _=>m<=i⟩
theorem lr{w:World}{K:DU}(it:Addr)(m:Nat):Turn P w K tg (Itd m) [it] it (λi h=>IsRangeIter h it (((m:Int) - 1)+(i:Nat)*(-1)) ((m:Int) - (i:Nat)) (-1)) where
 mem:=by simp
 obj:=λi h st b hb=>by
  have e:b=it:=by simpa using hb
  subst e;exact⟨_,st,λv z=>by
   have z':Ly _=Mt v:=z;cases z'⟩
 keep:=λi h h' st k=>k it (by simp) _ st
 item:=by
  intro X hP hw hK hc i pins s σ H E I hf st hg;subst hP hw hK;obtain⟨f0,f1,f2,f3,f4,f5⟩:=hf it (by simp);have hi:i<m:=hg;have W:=Lz (prog:=X.prog) (w:=X.w) (I.ok.hd hc) it ((m:Int) - 1) (-1) m;refine W.item i s _ _ hg st λv h' tk hv st' kk=>?_
  obtain⟨t,rfl⟩:=hv;have I1:Inv X pins σ H { s with heap:=h',toks:=tk }:=I.turned (λb o hb e=>kk b o (by simpa using hb) e) f0 f1 f3 f4 f5;refine⟨_,rfl,nD (s:={ s with heap:=h',toks:=tk }) (n:="range_iterator") st' rfl rfl (by decide) ⟨.int ((m - 1 - i:Nat):Int),H,I1,⟨t,?_⟩,⟨rfl,rfl⟩,st',λb hb=>(hf b hb).1⟩⟩;congr 1;lia
 done:=by
  intro X hP hw hK hc i pins s σ H E I hf st hg;subst hP hw hK;obtain⟨f0,f1,f2,f3,f4,f5⟩:=hf it (by simp);exact wpAny_pyNext_range_end (I.ok.hd hc) st (by have:m<=i:=hg;lia) λh' eb=>⟨rfl,I.turned (t':=s.toks) (λb o hb e=>eb b o hb e) f0 f1 f3 f4 f5⟩
 self:=λ_ _ _ _ _ st h=>wpAny_pyIter_rangeiter st h
section
variable{X:Cx}{tg a b c:Expr}{t:TA}{p pos:Pos}
def y8(t:TA):TI:=λσ H R=>t σ H λvs H1=>∃m:Nat,vs=[.int ((m:Int) - 1),.int (-1),.int (-1)]/\m<=1000/\R (Itd m) H1
theorem ff (hg:Gl X "range") (hm:X.mg "range" = none) (ha:QA X [a,b,c] t) (hn:bS a=true:=by rfl) (hn2:bS b=true:=by rfl) (hn3:bS c=true:=by rfl):QI X tg (.Call (.Name "range" p) [a,b,c] [] pos) (y8 t):=by
 refine⟨λpins s σ H R I h=>?_⟩;have e3:starEach [c] X.env=[(false,eval c X.env)]:=aM hn3;have e2:starEach [b,c] X.env=[(false,eval b X.env),(false,eval c X.env)]:=by rw[aM hn2,e3]
 refine Call_ (de I hg hm boot_range (EY (thn (ha.out pos pins s σ H _ I h) λus s1 ⟨vs,H1,I1,r1,q1⟩=>?_) (aM hn) (by rw[e2];rfl)));obtain⟨m,e,hm1,q⟩:=q1;subst e;cases r1 with
 | cons r rr=>
  cases rr with
  | cons r' rr=>
   cases rr with
   | cons r'' rr=>
    cases rr;obtain⟨t1,rfl⟩:=r;obtain⟨t2,rfl⟩:=r';obtain⟨t3,rfl⟩:=r'';refine call_range_3 (by decide) ?_ (.inl (Hl (by decide +kernel)));refine wpAny_pyIter_range (J9 ..) (y7 hm1) ?_;have I2:Inv X pins σ H1 { s1 with heap:=s1.heap.push { cls:=.type "range",data:=.fields #[.int ((m:Int) - 1) t1,.int (-1) t2,.int (-1) t3] },toks:=s1.toks }:=I1.kept λb o e=>DV _ e
    refine⟨_,[(s1.heap.push { cls:=.type "range",data:=.fields #[.int ((m:Int) - 1) t1,.int (-1) t2,.int (-1) t3] }).objs.size],_,_,H1,rfl,I2.kept (t':=s1.toks) λb o e=>DV _ e,lr _ m,?_,λb hb=>?_,q⟩
    ·show IsRangeIter _ _ (((m:Int) - 1)+((0:Nat):Int)*(-1)) ((m:Int) - ((0:Nat):Int)) (-1)
     have g1:((m:Int) - 1)+((0:Nat):Int)*(-1)=(m:Int) - 1:=by simp
     have g2:(m:Int) - ((0:Nat):Int)=Fq ((m:Int) - 1) (-1) (-1):=by rw[y4];simp
     rw[g1,g2];exact Ea _ rfl
    ·have e:b=(s1.heap.push { cls:=.type "range",data:=.fields #[.int ((m:Int) - 1) t1,.int (-1) t2,.int (-1) t3] }).objs.size:=by simpa using hb
     subst e;exact I2.fpOk (DY _) (I2.hok.fresh (DY _))
end
theorem BN{H:Hp}{t:TA}{R:It->Hp->Prop}(h:t σ H λvs H1=>∃m:Nat,vs=[.int ((m:Int) - 1),.int (-1),.int (-1)]/\m<=1000/\R (Itd m) H1):y8 t σ H R:=h
section
variable{prog:Program}{w:World}{A:Around}{E:Value->Shared->Prop}{s:Shared}
theorem pZ{z TI TO:Addr}{k:Nat}{xs ys:Array Value}{x y a b:Value}(D:ZipApart z TI TO i1 i2 l1 l2)
  (g0:IsZip s.heap z TI TO .none) (g1:OZ s.heap TI (.ref i1) (.ref i2)) (g2:OZ s.heap TO a b) (g3:s.heap.IsTupleIter i1 l1 k) (g4:s.heap.IsTupleIter i2 l2 k) (g5:s.heap.IsTuple l1 xs) (g6:s.heap.IsTuple l2 ys) (g7:xs[k]? = some x) (g8:ys[k]? = some y)
  (hQ:∀g,IsZip g z TI TO (Pc s.heap.objs.size)->OZ g TO x y->g.IsTupleIter i1 l1 (k+1)->g.IsTupleIter i2 l2 (k+1)->OZ g s.heap.objs.size x y->(∀c o,c≠z->c≠TO->c≠i1->c≠i2->s.heap.get? c=some o->g.get? c=some o)->Q (.ref s.heap.objs.size) { s with heap:=g }) :
  wpAny (model prog w) A (Builtin.«zip.__next__» ⟨[.ref z],[]⟩) (λfin s'=>∃v,fin=.done (.ret v)/\Q v s') E s:=by
 show wpAny _ _ (GM (.ref z) 2 >>= _) _ _ _
 refine Ov (OA g0 rfl (x:=.bool false) rfl ?_);show wpAny _ _ (GM (.ref z) 3 >>= _) _ _ _
 refine Ov (OA g0 rfl (x:=.ref TI) rfl ?_);refine Ov (OK g1 rfl ?_);show wpAny _ _ (FG (Ep z) >>= _) _ _ _
 refine Ov ?_;unfold FG;refine Ov (OA g0 rfl (x:=.none) rfl (Ow ?_));simp only[if_true];refine Ov (O1 ?_);refine Ov (OA g0 rfl (x:=.ref TO) rfl ?_);refine Ov (OF g0 (by simp) λa1 b1 c1=>?_);have b1:IsZip a1 z TI TO .ellipsis:=b1;refine Ov ?_;simp only[JD,Mb,JY,IE];refine Ov (Ov (wpAny_onRaise ?_));show wpAny _ _ (Fk (Ep i1) >>= _) _ _ _
 refine Ov (iS (g3.extBut c1.extBut D.i1z) (g5.extBut c1.extBut D.l1z) g7 λa2 b2 c2=>Ow ?_);have d2:OZ a2 TO a b:=c2.extBut _ _ D.TOi1 (c1.extBut _ _ D.TOz g2);refine Ov (OK d2 rfl ?_);refine Ov (wpAny_updateSeq_pair d2 λa3 b3 c3=>?_);have b3:OZ a3 TO x b:=b3;refine Ov (O7 (Ow ?_));refine Ov (Ov (wpAny_onRaise ?_));show wpAny _ _ (Fk (Ep i2) >>= _) _ _ _
 refine Ov (iS (((g4.extBut c1.extBut D.i2z).extBut c2.extBut D.i12.symm).extBut c3.extBut D.TOi2.symm) (((g6.extBut c1.extBut D.l2z).extBut c2.extBut D.l2i1).extBut c3.extBut D.l2TO) g8 λa4 b4 c4=>Ow ?_);have d4:OZ a4 TO x b:=c4.extBut _ _ D.TOi2 b3;refine Ov (OK d4 rfl ?_);refine Ov (wpAny_updateSeq_pair d4 λa5 b5 c5=>?_);have b5:OZ a5 TO x y:=b5;refine Ov (O7 (Ow (Ow ?_)));refine Ov (OK b5 rfl ?_);refine Ov (wpAny_newTuple ?_);have sz:a5.objs.size=s.heap.objs.size:=by rw[c5.1,c4.1,c3.1,c2.1,c1.1]
 have z5:IsZip a5 z TI TO .ellipsis:=c5.extBut _ _ D.TOz.symm (c4.extBut _ _ D.i2z.symm (c3.extBut _ _ D.TOz.symm (c2.extBut _ _ D.i1z.symm b1)));have k5:∀c o,c≠z->c≠TO->c≠i1->c≠i2->s.heap.get? c=some o->a5.get? c=some o:=λc o n1 n2 n3 n4 e=>c5.extBut _ _ n2 (c4.extBut _ _ n4 (c3.extBut _ _ n2 (c2.extBut _ _ n3 (c1.extBut _ _ n1 e))))
 have p5:a5.IsTupleIter i1 l1 (k+1):=((b2.extBut c3.extBut D.TOi1.symm).extBut c4.extBut D.i12).extBut c5.extBut D.TOi1.symm;have q5:a5.IsTupleIter i2 l2 (k+1):=b4.extBut c5.extBut D.TOi2.symm;have zl:z<a5.objs.size:=D2 z5;show wpAny _ _ (Hn (Ep z) (.ref a5.objs.size) >>= _) _ _ _
 refine Ov ?_;unfold Hn;have z6:IsZip (a5.push { cls:=.type "tuple",data:=.seq #[x,y] }) z TI TO .ellipsis:=DV _ z5;refine Ov (OF z6 (by simp) λa7 b7 c7=>?_);have b7:IsZip a7 z TI TO (Pc a5.objs.size):=b7;refine OF b7 (by simp) λa8 b8 c8=>?_
 have b8:IsZip a8 z TI TO (Pc a5.objs.size):=b8;have up:∀c o,c≠z->a5.get? c=some o->a8.get? c=some o:=λc o n e=>c8.extBut _ _ n (c7.extBut _ _ n (DV _ e))
 have t8:OZ a8 a5.objs.size x y:=c8.extBut _ _ (EU zl) (c7.extBut _ _ (EU zl) (Ea _ rfl));rw[sz]at b8 t8;refine Ow ⟨_,rfl,?_⟩;show Q (.ref a5.objs.size) _
 rw[sz];have r1:a8.IsTupleIter i1 l1 (k+1):=by obtain⟨o,e,r⟩:=p5;exact⟨o,up _ _ D.i1z e,r⟩
 have r2:a8.IsTupleIter i2 l2 (k+1):=by obtain⟨o,e,r⟩:=q5;exact⟨o,up _ _ D.i2z e,r⟩
 exact hQ a8 b8 (up _ _ D.TOz b5) r1 r2 t8 λc o n1 n2 n3 n4 e=>up c o n1 (k5 c o n1 n2 n3 n4 e)
theorem sO{z TI TO:Addr}{k:Nat}{xs:Array Value}{Q:Fin->Shared->Prop}(hh:A.handled=none)(D:ZipApart z TI TO i1 i2 l1 l2)
  (g0:IsZip s.heap z TI TO .none) (g1:OZ s.heap TI (.ref i1) (.ref i2)) (g3:s.heap.IsTupleIter i1 l1 k) (g5:s.heap.IsTuple l1 xs) (g7:xs[k]? = none)
  (hE:∀g e,(∀c o,c≠z->c≠i1->s.heap.get? c=some o->g.get? c=some o)->(∃o,g.get? e=some o/\o.cls=.type "StopIteration")->E (.ref e) { s with heap:=g }) :
  wpAny (model prog w) A (Builtin.«zip.__next__» ⟨[.ref z],[]⟩) Q E s:=by
 show wpAny _ _ (GM (.ref z) 2 >>= _) _ _ _
 refine Ov (OA g0 rfl (x:=.bool false) rfl ?_);show wpAny _ _ (GM (.ref z) 3 >>= _) _ _ _
 refine Ov (OA g0 rfl (x:=.ref TI) rfl ?_);refine Ov (OK g1 rfl ?_);show wpAny _ _ (FG (Ep z) >>= _) _ _ _
 refine Ov ?_;unfold FG;refine Ov (OA g0 rfl (x:=.none) rfl (Ow ?_));simp only[if_true];refine Ov (O1 ?_);refine Ov (OA g0 rfl (x:=.ref TO) rfl ?_);refine Ov (OF g0 (by simp) λa1 b1 c1=>?_);have b1:IsZip a1 z TI TO .ellipsis:=b1;refine Ov ?_;simp only[JD,Mb,JY,IE];refine Ov (Ov (wpAny_onRaise ?_));show wpAny _ _ (Fk (Ep i1) >>= _) _ _ _
 refine Ov (pR hh (g3.extBut c1.extBut D.i1z) (g5.extBut c1.extBut D.l1z) g7 λa2 e c2 he=>?_);obtain⟨oe,e1,e2⟩:=he;have z2:IsZip a2 z TI TO .ellipsis:=c2 _ _ D.i1z.symm b1;have ez:e≠z:=λq=>by
  subst q;rw[z2]at e1;cases e1;simp at e2
 exact OF z2 (by simp) λa3 _ c3=>hE a3 e (λc o n1 n3 q=>c3.extBut _ _ n1 (c2 _ _ n3 (c1.extBut _ _ n1 q))) ⟨oe,c3.extBut _ _ ez e1,e2⟩
theorem lu{z TI TO:Addr}{k:Nat}{xs ys:Array Value}{x y a b:Value}{Q:Option Value->Shared->Prop}(D:ZipApart z TI TO i1 i2 l1 l2)
  (g0:IsZip s.heap z TI TO .none) (g1:OZ s.heap TI (.ref i1) (.ref i2)) (g2:OZ s.heap TO a b) (g3:s.heap.IsTupleIter i1 l1 k) (g4:s.heap.IsTupleIter i2 l2 k) (g5:s.heap.IsTuple l1 xs) (g6:s.heap.IsTuple l2 ys) (g7:xs[k]? = some x) (g8:ys[k]? = some y)
  (hQ:∀g,IsZip g z TI TO (Pc s.heap.objs.size)->OZ g TO x y->g.IsTupleIter i1 l1 (k+1)->g.IsTupleIter i2 l2 (k+1)->OZ g s.heap.objs.size x y->(∀c o,c≠z->c≠TO->c≠i1->c≠i2->s.heap.get? c=some o->g.get? c=some o)->Q (some (.ref s.heap.objs.size)) { s with heap:=g }) :
  wpAny (model prog w) A (pyNext (.ref z)) Q E s:=by
 have ty:s.TypeIs (.ref z) "zip":=⟨_,g0,rfl⟩;unfold pyNext;exact Ov (wpAny_attempt (OE (name:=Ey "__next__") ty Ip (OG Ip ty LM (pZ D g0 g1 g2 g3 g4 g5 g6 g7 g8 λg a1 a2 a3 a4 a5 a6=>Ow (hQ g a1 a2 a3 a4 a5 a6)) (Lr _))))
theorem n0{z TI TO:Addr}{k:Nat}{xs:Array Value}{Q:Option Value->Shared->Prop}(hh:A.handled=none)(D:ZipApart z TI TO i1 i2 l1 l2)
  (g0:IsZip s.heap z TI TO .none) (g1:OZ s.heap TI (.ref i1) (.ref i2)) (g3:s.heap.IsTupleIter i1 l1 k) (g5:s.heap.IsTuple l1 xs) (g7:xs[k]? = none)
  (hQ:∀g,(∀c o,c≠z->c≠i1->s.heap.get? c=some o->g.get? c=some o)->Q none { s with heap:=g }):wpAny (model prog w) A (pyNext (.ref z)) Q E s:=by
 have ty:s.TypeIs (.ref z) "zip":=⟨_,g0,rfl⟩;unfold pyNext;refine Ov (wpAny_attempt (OE (name:=Ey "__next__") ty Ip (OG Ip ty LM (sO hh D g0 g1 g3 g5 g7 λg e kk he=>?_) (Lr _))));obtain⟨o,e1,e2⟩:=he;refine Ov (wpAny_isInstance (T:="StopIteration") (b:=true) ⟨o,e1,e2⟩ isSubtype_stop ?_);exact Ow (hQ _ kk)
noncomputable abbrev zt1 (h:Heap) (l:Addr):Heap:=h.push { cls:=.type "tuple_iterator",data:=.fields #[.ref l,.int 0 0] }
noncomputable abbrev zt2(h:Heap)(l m:Addr):Heap:=zt1 (zt1 h l) m
noncomputable abbrev zt3 (h:Heap) (l m:Addr):Heap:=(zt2 h l m).push { cls:=.type "tuple",data:=.seq #[.ref h.objs.size,.ref (zt1 h l).objs.size] }
noncomputable abbrev zt4 (h:Heap) (l m:Addr):Heap:=(zt3 h l m).push { cls:=.type "tuple",data:=.seq #[.none,.none] }
noncomputable abbrev zt5 (h:Heap) (l m:Addr):Heap:=(zt4 h l m).push { cls:=.type "zip",data:=.fields #[.none,.bool false,.bool false,.ref (zt2 h l m).objs.size,.ref (zt3 h l m).objs.size] }
theorem wg (l m:Addr) (xs ys:Array Value):Meets (Builtin.«zip.__new__» ⟨[.type "zip",.ref l,.ref m],[]⟩) (λ_ R s=>s.heap.IsTuple l xs/\s.heap.IsTuple m ys/\R (.ok (.ret (.ref (zt4 s.heap l m).objs.size))) { s with heap:=zt5 s.heap l m }):=
 .of_wp λprog w A R s h=>by
  obtain⟨q1,q2,q3,q4,q5⟩:=s;obtain⟨a1,a2,h⟩:=h;have sub:=sub_zip;have e1:Nd (Nw ⟨q1,q2,q3,q4,q5⟩) l xs:=a1;have e2:Nd (Nw ⟨zt1 q1 l,q2,q3,q4,q5⟩) m ys:=NY a2 _
  wp_walk using O2 e1,O2 e2
  exact⟨_,rfl,h⟩
theorem sP{m:Addr}{xs ys:Array Value}(a1:s.heap.IsTuple l xs)(a2:s.heap.IsTuple m ys)
  (h:∀g,IsZip g (s.heap.objs.size+4) (s.heap.objs.size+2) (s.heap.objs.size+3) .none->OZ g (s.heap.objs.size+2) (.ref s.heap.objs.size) (.ref (s.heap.objs.size+1))->OZ g (s.heap.objs.size+3) .none .none->g.IsTupleIter s.heap.objs.size l 0->g.IsTupleIter (s.heap.objs.size+1) m 0->
   (∀c o,s.heap.get? c=some o->g.get? c=some o)->Q (.ref (s.heap.objs.size+4)) { s with heap:=g }):wpAny (model prog w) A (call (.type "zip") [.ref l,.ref m]) Q E s:=by
 refine callType_new F.called_zip (by decide) (F.typeCall_zip_2 _ _) (F.newCall_zip_2 _ _) (λobj=>F.args_object_init_3 obj _ _) F.entry_zip_new (wg l m xs ys) ⟨a1,a2,?_⟩;have w1:(zt1 s.heap l).objs.size=s.heap.objs.size+1:=FO ..;have w2:(zt2 s.heap l m).objs.size=s.heap.objs.size+2:=by rw[FO,w1]
 have w3:(zt3 s.heap l m).objs.size=s.heap.objs.size+3:=by rw[FO,w2]
 have w4:(zt4 s.heap l m).objs.size=s.heap.objs.size+4:=by rw[FO,w3]
 have r5:(zt5 s.heap l m).get? (zt4 s.heap l m).objs.size=some { cls:=.type "zip",data:=.fields #[.none,.bool false,.bool false,.ref (zt2 s.heap l m).objs.size,.ref (zt3 s.heap l m).objs.size] }:=Ea _ rfl;have r4:(zt5 s.heap l m).get? (zt3 s.heap l m).objs.size=some { cls:=.type "tuple",data:=.seq #[.none,.none] }:=DV _ (Ea _ rfl);have r3:(zt5 s.heap l m).get? (zt2 s.heap l m).objs.size=some { cls:=.type "tuple",data:=.seq #[.ref s.heap.objs.size,.ref (zt1 s.heap l).objs.size] }:=DV _ (DV _ (Ea _ rfl));have r2:(zt5 s.heap l m).get? (zt1 s.heap l).objs.size=some { cls:=.type "tuple_iterator",data:=.fields #[.ref m,.int 0 0] }:=DV _ (DV _ (DV _ (Ea _ rfl)));have r1:(zt5 s.heap l m).get? s.heap.objs.size=some { cls:=.type "tuple_iterator",data:=.fields #[.ref l,.int 0 0] }:=DV _ (DV _ (DV _ (DV _ (Ea _ rfl))));rw[w2,w3,w4]at r5;rw[w1,w2]at r3;rw[w3]at r4;rw[w1]at r2;show _/\_
 rw[w4];exact⟨⟨_,r5,rfl⟩,h _ r5 r3 r4 ⟨_,r1,rfl,rfl⟩ ⟨_,r2,rfl,rfl⟩ λc o q=>DV _ (DV _ (DV _ (DV _ (DV _ q))))⟩
end
def BO(K:DU)(a b:Addr):It:=
 ⟨λi H=>∃xs ys x y,SqT K H a xs/\SqT K H b ys/\xs[i]? = some x/\ys[i]? = some y,λi H v H'=>∃p x y,v=.ref p/\H p=none/\H'=upd H p (.tup [x,y])/\(∀xs,SqT K H a xs->xs[i]? = some x)/\∀ys,SqT K H b ys->ys[i]? = some y,λi H=>∃xs,SqT K H a xs/\xs.length<=i⟩
theorem p6{w:World}{K:DU}{elts:List Expr}{k:Nat}(a b z TI TO i1 i2:Addr)(D:ZipApart z TI TO i1 i2 a b):
  Turn P w K (.Tuple elts k pos) (BO K a b) [z,TI,TO,i1,i2] z (λi h=>IsZip h z TI TO .none/\OZ h TI (.ref i1) (.ref i2)/\(∃u v,OZ h TO u v)/\h.IsTupleIter i1 a i/\h.IsTupleIter i2 b i) where
 mem:=by simp
 obj:=λi h st c hb=>by
  obtain⟨q1,q2,⟨u,v,q3⟩,⟨o4,q4,_,d4⟩,⟨o5,q5,_,d5⟩⟩:=st;simp only[Eb,EC,or_false]at hb;rcases hb with rfl|rfl|rfl|rfl|rfl
  ·exact⟨_,q1,λv z=>by cases z⟩
  ·exact⟨_,q2,λv z=>by cases z⟩
  ·exact⟨_,q3,λv z=>by cases z⟩
  ·exact⟨o4,q4,λv z=>by rw[d4]at z;cases z⟩
  ·exact⟨o5,q5,λv z=>by rw[d5]at z;cases z⟩
 keep:=λi h h' st kk=>by
  obtain⟨q1,q2,⟨u,v,q3⟩,⟨o4,q4,r4⟩,⟨o5,q5,r5⟩⟩:=st;exact⟨kk z (by simp) _ q1,kk TI (by simp) _ q2,⟨u,v,kk TO (by simp) _ q3⟩,⟨o4,kk i1 (by simp) _ q4,r4⟩,⟨o5,kk i2 (by simp) _ q5,r5⟩⟩
 item:=by
  intro X hP hw hK hc i pins s σ H E I hf st hg;subst hP hw hK;obtain⟨xs,ys,x,y,hqx,hqy,hx,hy⟩:=hg;obtain⟨its,rv,p,hz⟩:=I.tuple hqx;obtain⟨jts,rw',p',hz'⟩:=I.tuple hqy;have p:s.heap.IsTuple a its.toArray:=p;have p':s.heap.IsTuple b jts.toArray:=p';obtain⟨u,hu,ru⟩:=rv.get hx;obtain⟨v,hv,rv'⟩:=rw'.get hy;obtain⟨q1,q2,⟨u3,v3,q3⟩,q4,q5⟩:=st;have l1:=D2 q1;have l2:=D2 q2;have l3:=D2 q3;have l4:i1<s.heap.objs.size:=by obtain⟨o,g,_⟩:=q4;exact D2 g
  have l5:i2<s.heap.objs.size:=by obtain⟨o,g,_⟩:=q5;exact D2 g
  refine lu D q1 q2 q3 q4 q5 p p' (x:=u) (y:=v) (by simpa using hu) (by simpa using hv) λh' a1 a2 a3 a4 a5 a7=>⟨_,rfl,wpAny_letOwnedTupleGo_zip a1 λg hz2 sb=>?_⟩
  obtain⟨I2,hn⟩:=I.pair (g:=g) (tk:=s.toks) (ch:=[z,TO,i1,i2]) (x:=x) (y:=y) (λc o hb r=>(sb.2 c (λe=>hb (by simp[e]))).trans (a7 c o (λe=>hb (by simp[e])) (λe=>hb (by simp[e])) (λe=>hb (by simp[e])) (λe=>hb (by simp[e])) r)) (λc hb=>hf c (by simp at hb;rcases hb with e|e|e|e<;>simp[e])) ((sb.2 _ (EU l1)).trans a5) ru rv';have r3:g.IsTupleIter i1 a (i+1):=by obtain⟨o,e,r⟩:=a3;exact⟨o,(sb.2 i1 D.i1z).trans e,r⟩
  have r4:g.IsTupleIter i2 b (i+1):=by obtain⟨o,e,r⟩:=a4;exact⟨o,(sb.2 i2 D.i2z).trans e,r⟩
  refine⟨.ref s.heap.objs.size,_,I2,rfl,⟨_,x,y,rfl,hn,rfl,λzs h=>by rw[I.tuple_inj h hqx];exact hx,λzs h=>by rw[I.tuple_inj h hqy];exact hy⟩,⟨hz2,?_,⟨_,_,(sb.2 _ D.TOz).trans a2⟩,r3,r4⟩,λc hb=>?_⟩
  ·exact(sb.2 _ D.TIz).trans (a7 TI _ D.TIz D.TITO D.TIi1 D.TIi2 q2)
  ·have hc0:=(hf c hb).1
   simp only[Eb,EC,or_false]at hb;have:c<s.heap.objs.size:=by rcases hb with rfl|rfl|rfl|rfl|rfl<;>assumption
   rw[aB (Eh this)];exact hc0
 done:=by
  intro X hP hw hK hc i pins s σ H E I hf st hg;subst hP hw hK;obtain⟨xs,hqx,hx⟩:=hg;obtain⟨its,rv,p,hz⟩:=I.tuple hqx;have m1:=rv.length;obtain⟨q1,q2,_,q4,_⟩:=st;exact n0 (I.ok.hd hc) D q1 q2 q4 (show s.heap.IsTuple a its.toArray from p) (by simp;lia) λh' kk=>⟨rfl,I.turnedAll (t':=s.toks) (ch:=[z,i1]) (λc o hb r=>kk c o (λe=>hb (by simp[e])) (λe=>hb (by simp[e])) r) (λc hb=>hf c (by simp at hb;rcases hb with e|e<;>simp[e]))⟩
 self:=λ_ _ _ _ _ st h=>wpAny_pyIter_zip st.1 h
section
variable{X:Cx}{a b:Expr}{t:TA}{p pos tpos:Pos}{ts:List Expr}{k:Nat}
def y9(K:DU)(t:TA):TI:=λσ H R=>t σ H λvs H1=>∃a b,vs=[.ref a,.ref b]/\(∃xs,SqT K H1 a xs)/\(∃ys,SqT K H1 b ys)/\R (BO K a b) H1
theorem wj {K:DU}(hg:Gl X "zip") (hm:X.mg "zip" = none) (ha:QA X [a,b] t) (hn:bS a=true:=by rfl) (hn2:bS b=true:=by rfl) (hK:X.K=K:=by rfl):QI X (.Tuple ts k tpos) (.Call (.Name "zip" p) [a,b] [] pos) (y9 K t):=by
 subst hK;refine⟨λpins s σ H R I h=>?_⟩;have e2:starEach [b] X.env=[(false,eval b X.env)]:=aM hn2;refine Call_ (de I hg hm (by decide +kernel:bootBuiltins "zip" = some (.type "zip")) (EY (thn (ha.out pos pins s σ H _ I h) λus s1 ⟨vs,H1,I1,r1,q1⟩=>?_) (aM hn) (by rw[e2];rfl)));obtain⟨l,m,e,⟨xs,hq⟩,⟨ys,hq'⟩,q⟩:=q1;subst e;cases r1 with
 | cons r rr=>
  cases rr with
  | cons r' rr=>
   cases rr;cases r;cases r';obtain⟨its,rv,pl,hz⟩:=I1.tuple hq;obtain⟨jts,rw',pl',hz'⟩:=I1.tuple hq';have pl:s1.heap.IsTuple l its.toArray:=pl;have pl':s1.heap.IsTuple m jts.toArray:=pl';have a1:l<s1.heap.objs.size:=by obtain⟨o,g,_⟩:=pl;exact D2 g
   have a2:m<s1.heap.objs.size:=by obtain⟨o,g,_⟩:=pl';exact D2 g
   refine sP pl pl' λg h1 h2 h3 h4 h5 h7=>wpAny_pyIter_zip h1 ?_
   have I2:Inv X pins σ H1 { s1 with heap:=g }:=I1.kept (t':=s1.toks) h7;refine⟨_,_,_,_,H1,rfl,I2,p6 l m _ _ _ _ _ (zipApart_new a1 a2),⟨h1,h2,⟨_,_,h3⟩,h4,h5⟩,λc hc=>?_,q⟩;have hle:s1.heap.objs.size<=c:=by
    simp only[Eb,EC,or_false]at hc;rcases hc with rfl|rfl|rfl|rfl|rfl
    ·exact Fj _ _
    ·exact Fj _ _
    ·exact Fj _ _
    ·exact DY _
    ·exact Fj _ _
   exact I1.fpOk hle (I1.hok.fresh hle)
end
theorem BQ{K:DU}{H:Hp}{t:TA}{R:It->Hp->Prop}(h:t σ H λvs H1=>∃a b,vs=[.ref a,.ref b]/\(∃xs,SqT K H1 a xs)/\(∃ys,SqT K H1 b ys)/\R (BO K a b) H1):y9 K t σ H R:=h
section
variable{X:Cx}{N tgs frs:List Str}{ix:List Nat}{scope:Scope}{cl:List (Str×Addr)}
theorem wk{y:Str}{te:TE}(hN:X.N.Nodup)(hy:X.N[iy]? = some y)(hx:Loc X.env.scope y)(c:CompOk X N tgs frs ix scope cl)(hc:X.calm=true)(hi:PI X tg iter wi)
  (hg:∀fp C s H,PG (bc X N scope cl fp C s H) tg g) (he:∀fp C s H,PE (bc X N scope cl fp C s H) elt te)
  (hcd:∀fp C s H,PT (bc X N scope cl fp C s H) cnd tc)
  (hs:∀x,Oz iter X.env x=pure x:=by intro _;rfl)
  (hsw:OY (.ListComp elt [⟨tg,iter,[cnd],0⟩] scope pos) (some (.Name y py)) spos.line X.env=pure true:=by rfl)
  (hf:X.fn y=true\/X.env.scope.names.lookup y=some .local:=by first|exact .inl rfl|exact .inr rfl|assumption) :
  PS X (.Assign [.Name y py] (.ListComp elt [⟨tg,iter,[cnd],0⟩] scope pos) spos) (nC (kh wi g tc te tgs ix) (dk iy)):=pE (oc:=some cnd) (tb:=tbF tc te) hN hy hx c hc hi hg (λfp C s H=>.ts (hcd fp C s H) (he fp C s H)) hs hsw hf
theorem wm{y:Str}{te:TE}(hN:X.N.Nodup)(hy:X.N[i]? = some y)(hx:Loc X.env.scope y)(c:CompOk X N tgs frs ix scope cl)(hc:X.calm=true)(hi:QI X tg iter wi)
  (hg:∀fp C s H,QG (bc X N scope cl fp C s H) tg g) (he:∀fp C s H,QE (bc X N scope cl fp C s H) elt te) (hcd:∀fp C s H,QT (bc X N scope cl fp C s H) cnd tc)
  (hs:∀x,Oz iter X.env x=pure x:=by intro _;rfl)
  (hsw:OY (.ListComp elt [⟨tg,iter,[cnd],0⟩] scope pos) (some (.Name y py)) spos.line X.env=pure true:=by rfl)
  (hf:X.fn y=true\/X.env.scope.names.lookup y=some .local:=by first|exact .inl rfl|exact .inr rfl|assumption) :
  QS X (.Assign [.Name y py] (.ListComp elt [⟨tg,iter,[cnd],0⟩] scope pos) spos) (nC (kh wi g tc te tgs ix) (dk i)):=
 ⟨wk hN hy hx c hc hi.out (λfp C s H=>(hg fp C s H).out) (λfp C s H=>(he fp C s H).out) (λfp C s H=>(hcd fp C s H).out) hs hsw hf⟩
end
section
variable{X:Cx}{N tgs frs:List Str}{ix:List Nat}{scope:Scope}{cl:List (Str×Addr)}{xc:Str}
end
section
variable{X:Cx}{e o:Expr}{to te:TE}{t:TA}{pos apos cpos:Pos}
end
section
variable{K:DU}{σ:St}{H:Hp}{Q:VK}{g:TG}{tc:TT}{te:TE}
theorem p7{J:It}{σ0:St}{R:List V->Hp->Prop}(Pv:Nat->List V->St->Hp->Prop)(hz:n<Ox)(hl:∀i ys σ H,Pv i ys σ H->ys.length<=i)(h0:Pv 0 [] σ0 H)(hgo:∀i ys σ H,i<n->Pv i ys σ H->J.go i H)(hst:∀ys σ H,Pv n ys σ H->J.stop n H)
  (hs:∀i x ys σ H H',i<n->Pv i ys σ H->J.yld i H x H'->g x σ H' λσ2 H2=>tc σ2 H2 λb H3=>if b=true then te σ2 H3 λy H4=>Nx n i (Pv (i+1) (ys++[y]) σ2 H4)else Nx n i (Pv (i+1) ys σ2 H3)) (hd:∀ys σ H,Pv n ys σ H->R ys H) :
  ∃W:Nat->Nat->List V->St->Hp->Prop,(∃m,W 0 m [] σ0 H)/\∀i m xs σc H,W i m xs σc H->xs.length<Ox/\
  ((J.stop i H/\R xs H)\/(J.go i H/\∀x H',J.yld i H x H'->g x σc H' λσ2 H2=>tc σ2 H2 λb H3=>if b=true then te σ2 H3 λy H4=>∃m',m'<m/\W (i+1) m' (xs++[y]) σ2 H4 else ∃m',m'<m/\W (i+1) m' xs σ2 H3)):=by
 refine⟨λi m xs σ H=>m=n - i/\i<=n/\Pv i xs σ H,⟨n,by simp,Ec _,h0⟩,?_⟩;rintro i m xs σ H ⟨rfl,hi,p⟩;refine⟨E4 (ET (hl i xs σ H p) hi) hz,?_⟩;by_cases hlt:i<n
 ·exact .inr ⟨hgo i xs σ H hlt p,λx H' y=>hs i x xs σ H H' hlt p y⟩
 ·have e:i=n:=by lia
  subst e;exact .inl ⟨hst xs σ H p,hd xs σ H p⟩
end
section
variable{X:Cx}
end
noncomputable def iB(os:List Nat):List Nat:=os.filter λm=>decide (0<m)
noncomputable def cq(os:List Nat):Bool:=decide (1<(iB os).length)
noncomputable def bC(os:List Nat)(f:Nat):Nat:=os.countP λx=>decide (x<f)
noncomputable def sQ(cs:List Nat):List Nat:=(DZ cs.length).map λf=>(cs.take f).sum
noncomputable def ef(os:List Nat)(k:Nat):Nat:=bC os (os.getD k 0)+(os.take k).count (os.getD k 0)
theorem cn(os:List Nat)(f:Nat):bC os (f+1)=bC os f+os.count f:=by
 unfold bC
 induction os with
 | nil=>rfl
 | cons x xs ih=>
  rw[HX,HX,Mc,ih];by_cases h:x<f
  ·have h1:x≠f:=by lia
   have h2:x<f+1:=by lia
   simp[h,h1,h2];lia
  ·by_cases h1:x=f
   ·subst h1;simp;lia
   ·have h2:¬x<f+1:=by lia
    simp[h,h1,h2]
theorem cP{os:List Nat}{f g:Nat}(h:f<=g):bC os f<=bC os g:=by
 induction g with
 | zero=>(have:f=0:=⋯);subst this;exact DY _
 | succ g ih=>
  by_cases e:f=g+1
  ·subst e;exact DY _
  ·have:=ih ⋯
   rw[cn];lia
theorem du(os:List Nat)(f:Nat):bC os f<=os.length:=Kn
theorem cj(os:List Nat)(b f:Nat)(h:f<=b):((cnt os b).take f).sum=bC os f:=by
 induction f with
 | zero=>simp[bC]
 | succ f ih=>
  rw[D7,cS ⋯,Fd,ih ⋯,cn];simp
theorem gy(cs:List Nat):(sQ cs).length=cs.length:=by simp[sQ]
theorem gz{f:Nat}(h:f<cs.length):(sQ cs)[f]? = some (cs.take f).sum:=by
 unfold sQ;rw[DX,EX h];rfl
theorem p8{f:Nat}(h:f<cs.length):(sQ cs).take (f+1)=(sQ cs).take f++[(cs.take f).sum]:=by
 rw[D7,gz h];rfl
theorem fg(os:List Nat)(f:Nat)(h:i<=j):(os.take i).count f<=(os.take j).count f:=by
 have:os.take i=(os.take j).take i:=by rw[Ko,Gd h]
 rw[this];exact ND _ (Ll i _)
theorem cT{os:List Nat}{k:Nat}(h:k<os.length):(os.take (k+1)).count (os.getD k 0)=(os.take k).count (os.getD k 0)+1:=by
 rw[D7,DR h,FZ];simp[DS,DR h]
theorem fh{os:List Nat}{k:Nat}(h:k<os.length):ef os k<bC os (os.getD k 0+1):=by
 unfold ef;rw[cn];have h1:=cT h;have h2:=fg os (os.getD k 0) (i:=k+1) (j:=os.length) ⋯;rw[DW (DY _)]at h2;lia
theorem lx{os:List Nat}{k:Nat}(h:k<os.length):ef os k<os.length:=El (fh h) (du _ _)
theorem dh{os:List Nat}(hi:i<os.length)(hj:j<os.length)(h:os.getD i 0<os.getD j 0\/os.getD i 0=os.getD j 0/\i<j):ef os i<ef os j:=by
 rcases h with h|⟨h,hij⟩
 ·have h1:=fh hi
  have h2:=cP (os:=os) (f:=os.getD i 0+1) (g:=os.getD j 0) h;unfold ef at *;lia
 ·unfold ef
  rw[<-h];have h1:=cT hi;have h2:=fg os (os.getD i 0) (i:=i+1) (j:=j) hij;lia
theorem mK{os:List Nat}(hi:i<os.length)(hj:j<os.length)(h:ef os i=ef os j):i=j:=by
 rcases Fn (os.getD i 0) (os.getD j 0)with g|g|g
 ·have:=dh hi hj (.inl g);lia
 ·rcases Fn i j with q|q|q
  ·have:=dh hi hj (.inr ⟨g,q⟩);lia
  ·exact q
  ·have:=dh hj hi (.inr ⟨g.symm,q⟩);lia
 ·have:=dh hj hi (.inl g);lia
theorem km{xs ys:List Nat}(h:xs.Nodup)(hs:∀x∈xs,x∈ys)(hl:ys.length<=xs.length):xs.Perm ys:=by
 induction xs generalizing ys with
 | nil=>cases ys with
  | nil=>exact FP _
  | cons y r=>simp at hl
 | cons x xs ih=>
  have hx:x∈ys:=hs x (Es ..);have hp:=KB hx;refine Hf (Mo x (ih (Fc.mp h).2 (λz hz=>?_) ?_)) hp.symm
  ·have:z≠x:=λe=>(Fc.mp h).1 (e▸hz)
   exact(KC this).mpr (hs z (En _ hz))
  ·rw[JE hx];simp at hl;lia
structure ByF (os ob:List Nat):Prop where
 len:ob.length=os.length
 at_:∀k,k<os.length->ob[ef os k]? = some k
theorem ByF.get{os ob:List Nat}(h:ByF os ob){a x:Nat}(e:ob[a]? = some x):x<os.length/\a=ef os x:=by
 -- the spots are each place once
 have hsur:∀a,a<os.length->∃k,k<os.length/\ef os k=a:=by
  intro a ha;have hnd:((DZ os.length).map (ef os)).Nodup:=by
   rw[Jc,EL];intro i j hi hj hij e;simp only[DT,Ff]at hi hj;rw[LN,LN,K5,K5]at e;have:=mK hi hj e;lia
  have hsub:∀x∈(DZ os.length).map (ef os),x∈DZ os.length:=λx hx=>by
   obtain⟨k,hk,rfl⟩:=D4.mp hx;exact EF.mpr (lx (EF.mp hk))
  have hp:((DZ os.length).map (ef os)).Perm (DZ os.length):=km hnd hsub (by simp);obtain⟨k,hk,e⟩:=D4.mp (hp.mem_iff.mpr (EF.mpr ha));exact⟨k,EF.mp hk,e⟩
 have ha:a<os.length:=by rw[<-h.len];exact br e
 obtain⟨k,hk,rfl⟩:=hsur a ha;rw[h.at_ k hk]at e;cases e;exact⟨hk,rfl⟩
theorem ByF.ord{os ob:List Nat}(h:ByF os ob):Ord ob os.length:=by
 refine⟨h.len,λx hx=>?_,λi j r a b=>?_,λx hx=>⟨ef os x,lx hx,h.at_ x hx⟩⟩
 ·obtain⟨a,e⟩:=GY hx
  exact(h.get e).1
 ·rw[(h.get a).2,(h.get b).2]
theorem ByF.rise{os ob:List Nat}(h:ByF os ob):ob.Pairwise λi j=>os.getD i 0<os.getD j 0\/os.getD i 0=os.getD j 0/\i<j:=by
 rw[EL];intro a b ha hb hab;obtain⟨h1,e1⟩:=h.get (DR ha);obtain⟨h2,e2⟩:=h.get (DR hb);generalize ob[a]=i at *;generalize ob[b]=j at *;rcases Fn (os.getD i 0) (os.getD j 0)with g|g|g
 ·exact .inl g
 ·rcases Fn i j with q|q|q
  ·exact .inr ⟨g,q⟩
  ·subst q;lia
  ·have:=dh h2 h1 (.inr ⟨g.symm,q⟩);lia
 ·have:=dh h2 h1 (.inl g);lia
theorem Ord.perm{os:List Nat}(h:Ord os n):os.Perm (DZ n):=by
 refine km ?_ (λx hx=>EF.mpr (h.lt x hx)) (by rw[Ff,h.len];exact DY _);rw[Jc,EL];intro i j hi hj hij e;have:=h.inj i j os[i] (DR hi) (by rw[e];exact DR hj);lia
theorem eh(xs:List Nat):(DZ xs.length).map (λp=>xs.getD p 0)=xs:=by
 apply GX (by simp);intro i h1 h2;simp[DS,DR h2]
theorem fi{os xs:List Nat}(h:os.Perm (DZ xs.length)):(os.map λp=>xs.getD p 0).Perm xs:=by
 have:=h.map (λp=>xs.getD p 0);rw[eh]at this;exact this
theorem sR{xs ys:List Nat}(h:xs.Perm ys):cnt xs b=cnt ys b:=by
 unfold cnt;apply Eo;intro f _;exact h.count_eq f
theorem p9{os:List Nat}(h:∀o∈os,o<b):(cnt os b).sum=os.length:=by
 have h1:=cj os b b (DY _);rw[DW (by rw[bF];exact DY _)]at h1;rw[h1];unfold bC;rw[List.countP_eq_length];intro o ho;simpa using h o ho
noncomputable def dI(tss:List (List Nat)):List Nat:=(DZ tss.length).reverse.filter λc=>cq (tss.getD c [])
noncomputable def jz(tss:List (List Nat))(i:Nat):List Nat:=((DZ tss.length).reverse.take i).filter λc=>cq (tss.getD c [])
theorem fj(tss:List (List Nat)):jz tss tss.length=dI tss:=by
 unfold jz dI;rw[DW (by simp)]
theorem iV{tss:List (List Nat)}(h:i<tss.length):jz tss (i+1)=jz tss i++(if cq (tss.getD (tss.length - 1 - i) [])=true then[tss.length - 1 - i]else[]):=by
 unfold jz;have e:(DZ tss.length).reverse[i]? = some (tss.length - 1 - i):=by
  rw[Ic (by simpa using h),Ff,EX ⋯]
 rw[D7,e,FC];congr 1;simp only[KJ];split<;>simp_all
theorem fk{tss:List (List Nat)}(i:Nat):(jz tss i).length<=i:=by
 unfold jz;refine ET (Ge _ _) ?_;rw[Ee];lia
theorem kn{tss:List (List Nat)}(h:c∈dI tss):c<tss.length:=by
 unfold dI at h;have:=(EI.mp h).1;simpa using this
noncomputable def mL(tss:List (List Nat)):Nat:=((dI tss).map λc=>(tss.getD c []).sum).sum
theorem fm(ns:List Nat):(ns.map λx:Nat=>(x:Int)).sum=((ns.sum:Nat):Int):=by
 induction ns with
 | nil=>rfl
 | cons x xs ih=>simp[ih]
theorem ly{rss:List (List Nat)}{w:Nat}(h:∀c,c<w->∀o∈bD rss c,o<b):mL (bt rss w b)=(dI (bt rss w b)).length*rss.length:=by
 unfold mL;have hc:∀c∈dI (bt rss w b),((bt rss w b).getD c []).sum=rss.length:=λc hc=>by
  have hl:=kn hc;rw[dH]at hl;have hw:c<w:=by split at hl<;>lia
  unfold bt;rw[DS,DX,EX hl];show(cnt (bD rss c) b).sum=_
  rw[p9 (h c hw)];simp[bD]
 generalize dI (bt rss w b)=cs at hc
 induction cs with
 | nil=>simp
 | cons c cs ih=>
  rw[Ez,EJ,hc c (Es ..),ih (λx hx=>hc x (En _ hx)),Ej,K0];lia
end L2
open L2.Nx renaming mk→Ol
open L2.QW renaming qt→Oj
open L2.Same renaming refl→Oi
namespace HT
open PySem PyProof.Rows
noncomputable def dE:List Int->List Int->Bool
 | [],[]=>true
 | [],_::_=>true
 | _::_,[]=>false
 | x::xs,y::ys=>if x=y then dE xs ys else decide (x<=y)
theorem iW(x y:Int)(xs ys:List Int):dE (x::xs) (y::ys)=if x=y then dE xs ys else decide (x<=y):=rfl
theorem jA:dE [] []=true:=rfl
theorem iG(y:Int)(ys:List Int):dE [] (y::ys)=true:=rfl
theorem iH(x:Int)(xs:List Int):dE (x::xs) []=false:=rfl
theorem sS(A:Around)(s:Shared)(a:Int)(t:Tok)(c:Int)(u:Tok)(prog:Program)(w:World)(E:Value->Shared->Prop)(Q:Value->Shared->Prop)(h:Q (.bool (decide (a<=c))) s):
  wpAny (model prog w) A (richCompare .LtE (.int a t) (.int c u)) Q E s:=
 (NL h:wpAny (model prog w) A (OC .LtE (.int a t) (.int c u)) Q E s)
section
open PySem.SeqAt
open PySem.AutoSeq1 (wpAny_loadPart')
open PySem.MeetsSeq PySem.MeetsSeq2 PySem.MeetsSeq3
theorem jB(l b:Addr)(items items2:Array Value)(n n2:Nat)(dd dd2:Option Addr)(sl sl2:Array (Option Value))(ns ms:List Int)(hi:OI items.toList ns)(hj:OI items2.toList ms):
  Meets (Builtin.«tuple.__le__» ⟨[.ref l,.ref b],[]⟩)
   (λ_ R s=>s.heap.get? l=some { cls:=.type "tuple",dict:=dd,data:=.seq items n,slots:=sl }/\s.heap.get? b=some { cls:=.type "tuple",dict:=dd2,data:=.seq items2 n2,slots:=sl2 }/\
    R (.ok (.ret (.bool (dE ns ms)))) s):=
 .of_wp λprog w A R s h=>by
  obtain⟨hp,g,d,tk,os⟩:=s;obtain⟨hl,hb,h⟩:=h;have f2:=Hj;have z1:items.size=ns.length:=by rw[<-hi.length];simp
  have z2:items2.size=ms.length:=by rw[<-hj.length];simp
  wp_walk using OP hl,OP hb,wpAny_forIn_list _ (λrest b s'=>b.1=none/\s'=⟨hp,g,d,tk,os⟩/\∃(vs ws:List Value) (ns' ms':List Int),rest=vs.zip ws/\
   OI vs ns'/\OI ws ms'/\ns'.length+items2.size=ms'.length+items.size/\R (.ok (.ret (.bool (dE ns' ms')))) ⟨hp,g,d,tk,os⟩) _
  case turn=>
   rintro⟨y,x⟩ rest b s' ⟨hb',rfl,vs,ws,ns',ms',hz,hvi,hwi,hlen,hR⟩;cases hvi with
   | nil=>rw[Ji]at hz;cases hz
   | cons a t hvi'=>
    cases hwi with
    | nil=>rw[IL]at hz;cases hz
    | cons c u hwi'=>
     rw[FN]at hz;injection hz with hyx hrest
     injection hyx with hy hx
     subst hy hx;rw[iW]at hR;simp only[Ej]at hlen;obtain⟨e,he,hiff⟩:=l7 A.in1 ⟨hp,g,d,tk,os⟩ a t c u;refine Ov (he prog w _ _ ?_);cases e with
     | true=>
      rw[if_pos (hiff.mp rfl)]at hR
      wp_walk
      exact⟨rfl,rfl,_,_,_,_,hrest,hvi',hwi',by lia,hR⟩
     | false=>
      rw[if_neg (λq=>absurd (hiff.mpr q) Ei)]at hR;have hri:=sS A.in1 ⟨hp,g,d,tk,os⟩ a t c u prog w
      wp_walk using hri
      exact⟨_,rfl,by simpa using hR⟩
  case fin=>
   rintro⟨b1,b2⟩ s' ⟨hb',rfl,vs,ws,ns',ms',hz,hvi,hwi,hlen,hR⟩;simp only at hb';subst hb';have hv:dE ns' ms'=decide (items.size<=items2.size):=by
    cases hvi with
    | nil=>
     cases hwi with
     | nil=>
      simp only[E2]at hlen;rw[jA];exact(decide_eq_true ⋯).symm
     | cons c u hw=>
      simp only[E2,Ej]at hlen;rw[iG];exact(decide_eq_true ⋯).symm
    | cons a t hv=>
     cases hwi with
     | nil=>
      simp only[E2,Ej]at hlen;rw[iH];exact(decide_eq_false ⋯).symm
     | cons c u hw=>
      rw[FN]at hz;cases hz
   rw[hv]at hR
   wp_walk
   exact⟨_,rfl,by simpa [Ij]using hR⟩
  case h=>
   exact⟨rfl,rfl,items.toList,items2.toList,ns,ms,rfl,hi,hj,by lia,h⟩
end
section
variable{prog:Program}{w:World}{A:Around}{E:Value->Shared->Prop}{s:Shared}
theorem n5{b:Addr}{items2:Array Value}{ns:List Int}(hl:IsTup s.heap l items)(hb:IsTup s.heap b items2)(hi:OI items.toList ns)(hj:OI items2.toList ms)
  (hu:A.units<cLine) (h:Q (.bool (dE ns ms)) s):wpAny (model prog w) A (OC .LtE (.ref l) (.ref b)) Q E s:=by
 obtain⟨⟨cls,dd,data,sl⟩,ho,hc,n,hd⟩:=id hl;obtain⟨⟨cls2,dd2,data2,sl2⟩,ho2,hc2,n2,hd2⟩:=id hb;simp only at hc hd hc2 hd2;subst hc hd hc2 hd2;exact richCompare_meets_room (op:=.LtE) ⟨_,ho,rfl⟩ ⟨_,ho2,rfl⟩ PySem.F.slot_tuple_le PySem.F.entry_tuple_le (PySem.F.args_tuple_le_2 _ _) (jB l b items items2 n n2 dd dd2 sl sl2 ns ms hi hj)
  ⟨ho,ho2,show Gk (dE ns ms)≠Ky/\Q (.bool (dE ns ms)) s from⟨(λx=>nomatch x),h⟩⟩ hu
end
theorem ko(ns ms:List Int):dE ns ms=!cM ms ns:=by
 induction ns generalizing ms with
 | nil=>cases ms<;>rfl
 | cons x xs ih=>
  cases ms with
  | nil=>rfl
  | cons y ys=>
   rw[iW,ck];by_cases h:x=y
   ·subst h;rw[if_pos rfl,if_pos rfl,ih]
   ·rw[if_neg h,if_neg (E5 h)]
    by_cases g:x<=y
    ·rw[decide_eq_true g,decide_eq_false ⋯];rfl
    ·rw[decide_eq_false g,decide_eq_true ⋯];rfl
end HT
namespace L2
open PySem PySem.Spec PyProof.Rows
section
variable{X:Cx}{e e2 o:Expr}{to te:TE}{t:TA}{pos apos cpos:Pos}
def BR(K:DU):R2:=λx y H Q=>∃a b ns ms,x=.ref a/\y=.ref b/\SqT K H a (ns.map Of)/\SqT K H b (ms.map Of)/\Q (.bl (HT.dE ns ms)) H
theorem za(hu:X.A.units<cLine):OpR X (OC .LtE) (BR X.K):=by
 intro pins s σ H x y v u Q I rx ry h;obtain⟨a,b,ns,ms,rfl,rfl,ha,hb,q⟩:=h;cases rx;cases ry;obtain⟨its,r1,p1,_⟩:=I.tuple ha;obtain⟨its2,r2,p2,_⟩:=I.tuple hb;have i1:OI its.toArray.toList ns:=cB r1;have i2:OI its2.toArray.toList ms:=cB r2;exact HT.n5 p1 p2 i1 i2 hu ⟨.bl (HT.dE ns ms),H,I,rfl,q⟩
theorem zb{K:DU}(hu:X.A.units<cLine)(hK:X.K=K:=by rfl):QOp X (OC .LtE) (BR K):=by subst hK;exact⟨za hu⟩
theorem BS{K:DU}(hK:X.K=K:=by rfl):QIx X (rIx K):=by subst hK;exact⟨yB⟩
def lz:V->List V->Hp->VK->Prop:=λx vs H Q=>∃(l:Addr) (xs:List V) (k:Nat) (i:Int) (y:V),x=.ref l/\vs=[.int i,y]/\i=(k:Nat)/\H l=some (.lst xs)/\k<=xs.length/\xs.length<Ox/\Q .non (upd H l (.lst (xs.take k++y::xs.drop k)))
theorem qa:MtM X "list.insert" lz:=by
 intro pins s σ H x vs v us Q I rx rv h;obtain⟨l,xs,k,i,y,rfl,rfl,hik,hH,hk,hz,q⟩:=h;cases rx;obtain⟨u1,u,rfl,r1,r2⟩:=vE rv;obtain⟨t,rfl⟩:=r1;obtain⟨z,its,n,r,hl,e⟩:=I.lstM hH;have hn:=ee;have hk63:i<2 ^ 63:=by
  rw[hik];have:k<2 ^ 63:=E4 (ET hk (Fv hz)) hn;exact Int.ofNat_lt.mpr this
 have hk0:-(2 ^ 63)<=i:=by rw[hik];exact K1 (by decide) (Int.natCast_nonneg k)
 have hfi:¬(!Builtin.List.listFitsIndex i)=true:=by rw[fitsIndex_both hk0 hk63];exact Ei
 have hsz:its.toArray.size<=Ox:=by rw[D9];lia
 have M:=Li l its.toArray n i t u hfi hsz;refine O6 F.slot_list_insert ⟨_,e,rfl⟩ F.entry_list_insert (F.args_list_insert_3 (.ref l) (.int i t) u) M ⟨e,?_⟩;refine⟨.non,_,I.lstUpd (t:=s.toks) (its':=its.take k++u::its.drop k) (n':=n+1) hH e ?_ ((r.take k).append (.cons r2 (r.drop k))) ?_,rfl,q⟩
 ·have hki:k<=its.length:=by lia
  have hi0:¬i<0:=by lia
  have hi1:i.toNat=k:=by lia
  simp[E6,hi0,hi1,hki]
  first|exact⟨DW (by simp),by lia⟩|exact DW (by simp)|(refine⟨DW (by simp),?_⟩;lia)|trace_state
 ·rw[D8,Ee,Ej,EO];lia
theorem wo {r:V->List V->Hp->VK->Prop}{T id:String}{name:Str}(pa:PlainAttrs T) (slot:Slot T name id) (hty:typeOf (.builtin id)=pure (.type "method_descriptor")) (hm:MtR X id r) (ho:PE X o to) (ha:PA X [e,e2] t)
  (hbase:attributeBase o name X.env (eval o X.env)=eval o X.env) (hline:(apos.endLine == cpos.line)=true) (hn:bS e=true) (hn2:bS e2=true) :
  PE X (.Call (.Attribute o name apos) [e,e2] [] cpos) (tBM X.K T r to t):=by
 refine yC pa slot hty hm ho ha hbase ?_ hline (aM hn) ?_
 ·rw[aM hn,aM hn2];rfl
 ·rw[aM hn2];rfl
theorem qb {K:DU}(ho:QE X o to) (ha:QA X [e,e2] t) (hbase:attributeBase o ("insert" : Str) X.env (eval o X.env)=eval o X.env:=by rfl) (hline:(apos.endLine == cpos.line)=true:=by rfl) (hn:bS e=true:=by rfl) (hn2:bS e2=true:=by rfl) (hK:X.K=K:=by rfl) :
  QE X (.Call (.Attribute o "insert" apos) [e,e2] [] cpos) (tBM K "list" lz to t):=by subst hK;exact⟨wo FI PySem.F.slot_list_insert PySem.F.type_list_insert qa ho.out ha.out hbase hline hn hn2⟩
end
theorem qc{P:PyData->Bool}{PA:List PyData->Bool}(h0:PA []=true)(h1:∀x xs,PA (x::xs)=(P x && PA xs)):∀{ds:List PyData},(∀d∈ds,P d=true)->PA ds=true
 | [],_=>h0
 | d::ds,h=>by rw[h1,h d (Es ..),qc h0 h1 λx hx=>h x (En _ hx)];rfl
theorem eJ{n:Nat}:∀{ds:List PyData},(∀d∈ds,d.depth<=n)->Md ds<=n
 | [],_=>Ec _
 | d::ds,h=>by
  show max d.depth (Md ds)<=n
  have h1:=h d (Es ..);have h2:=eJ (ds:=ds) λx hx=>h x (En _ hx)
  lia
section
variable{X:Cx}{pins:List (Addr×Obj)}{σ:St}{H:Hp}{s:Shared}
theorem eK{R:V->PyData->Prop}{h:Heap}(hR:∀x v d,R x d->RelV x v->∃as,Reads h v d as):∀{xs:List V}{its:List Value}{ds:List PyData},Vals xs its->xs.length=ds.length->(∀(i:Nat) u e,xs[i]? = some u->ds[i]? = some e->R u e)->∃as,ReadsAll h its ds as
 | _,_,[],.nil,_,_=>⟨[],.nil⟩
 | _,_,d::ds,.cons r rr,hl,hi=>by
  obtain⟨as,h1⟩:=hR _ _ d (hi 0 _ d rfl rfl) r;obtain⟨bs,h2⟩:=eK hR rr (by simpa using hl) λi u e e1 e2=>hi (i+1) u e e1 e2
  exact⟨as++bs,.cons h1 h2⟩
 | _,_,_::_,.nil,hl,_=>by simp at hl
 | _,_,[],.cons _ _,hl,_=>by simp at hl
end
section
variable{K:DU}{σ:St}{H:Hp}{Q:VK}
theorem uJ{b:Addr}{ns:List Int}(h1:SqT K H a (ns.map Of))(h2:SqT K H b (ms.map Of))(h:Q (.bl (HT.dE ns ms)) H):BR K (.ref a) (.ref b) H Q:=⟨a,b,ns,ms,rfl,rfl,h1,h2,h⟩
theorem qd{k:Nat}(h1:H l=some (.lst xs))(h2:k<=xs.length)(h3:xs.length<Ox)(h:Q .non (upd H l (.lst (xs.take k++y::xs.drop k)))):lz (.ref l) [.int (k:Nat),y] H Q:=⟨l,xs,k,_,y,rfl,rfl,rfl,h1,h2,h3,h⟩
theorem zc{p:Addr}{i:Int}(s:H p=some (.lst xs)\/H p=some (.tup xs))(a:atI xs i=some v)(h:Q v H):rIx K (.ref p) (.int i) H Q:=
 s.elim (λs=>.inl (bJ (Od s) a h)) (λs=>.inr (.inl (mh (Oe s) a h)))
end
noncomputable def bH(a:List Nat):List Int:=a.map λx:Nat=>(x:Int)
noncomputable def lxt(a b:List Nat):Bool:=HT.cM (bH a) (bH b)
theorem dv(x y:Nat)(a b:List Nat):lxt (x::a) (y::b)=if x=y then lxt a b else decide (x<y):=by
 unfold lxt bH;rw[Ez,Ez,HT.ck];by_cases h:x=y
 ·rw[if_pos h,if_pos (by rw[h])]
 ·rw[if_neg h,if_neg ⋯]
  exact decide_eq_decide.mpr ⋯
theorem fO(a:List Nat):lxt a a=false:=by
 induction a with
 | nil=>rfl
 | cons x a ih=>rw[dv,if_pos rfl,ih]
theorem gZ{a b c:List Nat}(h1:lxt a b=true)(h2:lxt b c=true):lxt a c=true:=by
 induction a generalizing b c with
 | nil=>
  cases b with
  | nil=>cases h1
  | cons y b=>cases c with
   | nil=>cases h2
   | cons z c=>rfl
 | cons x a ih=>
  cases b with
  | nil=>cases h1
  | cons y b=>
   cases c with
   | nil=>cases h2
   | cons z c=>
    rw[dv]at h1 h2 ⊢;by_cases e1:x=y
    ·subst e1
     rw[if_pos rfl]at h1;by_cases e2:x=z
     ·rw[if_pos e2]at h2 ⊢;exact ih h1 h2
     ·rw[if_neg e2]at h2 ⊢;exact h2
    ·rw[if_neg e1]at h1
     have h1:=of_decide_eq_true h1;by_cases e2:y=z
     ·subst e2;rw[if_neg e1];exact decide_eq_true h1
     ·rw[if_neg e2]at h2
      have h2:=of_decide_eq_true h2;rw[if_neg ⋯];exact decide_eq_true ⋯
theorem lA(a b:List Nat):lxt a b=true\/a=b\/lxt b a=true:=by
 induction a generalizing b with
 | nil=>cases b with
  | nil=>exact .inr (.inl rfl)
  | cons y b=>exact .inl rfl
 | cons x a ih=>
  cases b with
  | nil=>exact .inr (.inr rfl)
  | cons y b=>
   rw[dv,dv];by_cases e:x=y
   ·subst e
    rw[if_pos rfl,if_pos rfl];rcases ih b with h|h|h
    ·exact .inl h
    ·exact .inr (.inl (by rw[h]))
    ·exact .inr (.inr h)
   ·rw[if_neg e,if_neg (E5 e)]
    rcases K6 e with h|h
    ·exact .inl (decide_eq_true h)
    ·exact .inr (.inr (decide_eq_true h))
theorem qe{a b:List Nat}(h1:lxt a b=true)(h2:lxt b a=true):False:=by
 have:=gZ h1 h2;rw[fO]at this;cases this
def Rk(rss:List (List Nat))(c i j:Nat):Prop:=lxt ((rss.getD i []).drop c) ((rss.getD j []).drop c)=true\/((rss.getD i []).drop c=(rss.getD j []).drop c/\i<j)
theorem Rk.asymm{rss:List (List Nat)}(h1:Rk rss c i j)(h2:Rk rss c j i):False:=by
 rcases h1 with h1|⟨e1,l1⟩
 ·rcases h2 with h2|⟨e2,l2⟩
  ·exact qe h1 h2
  ·rw[e2,fO]at h1;cases h1
 ·rcases h2 with h2|⟨e2,l2⟩
  ·rw[e1,fO]at h2;cases h2
  ·lia
theorem iX{α:Type}{R:α->α->Prop}(ha:∀a b,R a b->R b a->False):∀{xs ys:List α},xs.Perm ys->xs.Pairwise R->ys.Pairwise R->xs=ys
 | [],ys,hp,_,_=>by have:=hp.length_eq;exact(Fi.mp this.symm).symm
 | x::xs,[],hp,_,_=>by have:=hp.length_eq;simp at this
 | x::xs,y::ys,hp,h1,h2=>by
  have e:x=y:=by
   rcases Eb.mp (hp.mem_iff.mp (Es ..))with h|h
   ·exact h
   ·rcases Eb.mp (hp.mem_iff.mpr (Es ..))with g|g
    ·exact g.symm
    ·exact(ha x y ((FQ.mp h1).1 y g) ((FQ.mp h2).1 x h)).elim
  subst e;rw[iX ha (List.perm_cons x |>.mp hp) (FQ.mp h1).2 (FQ.mp h2).2]
theorem mM{rss:List (List Nat)}{w b i c:Nat}(hi:i<rss.length)(hl:∀r∈rss,r.length=w)(hc:c<w):(rss.getD i []).drop c=(bD rss c).getD i 0::(rss.getD i []).drop (c+1):=by
 have e:rss.getD i []=rss[i]:=by rw[DS,DR hi];rfl
 have hr:=hl rss[i] (D1 hi);have e2:(bD rss c).getD i 0=rss[i].getD c 0:=by
  unfold bD;rw[DS,DX,DR hi];rfl
 rw[e,e2,Gq (by lia:c<rss[i].length)];congr 1;rw[DS,DR ⋯];rfl
theorem Rk.col{rss:List (List Nat)}{w:Nat}(hi:i<rss.length)(hj:j<rss.length)(hl:∀r∈rss,r.length=w)(hc:c<w)
  (h:(bD rss c).getD i 0<(bD rss c).getD j 0\/(bD rss c).getD i 0=(bD rss c).getD j 0/\Rk rss (c+1) i j):Rk rss c i j:=by
 unfold Rk;rw[mM (b:=0) hi hl hc,mM (b:=0) hj hl hc,dv];rcases h with h|⟨e,h|⟨h1,h2⟩⟩
 ·left;rw[if_neg ⋯];exact decide_eq_true h
 ·left;rw[if_pos e];exact h
 ·right;rw[e,h1];exact⟨rfl,h2⟩
theorem iY{os:List Nat}{x y:Nat}(h:∀o∈os,o<b)(hp:¬cq (cnt os b)=true)(hx:x∈os)(hy:y∈os):x=y:=by
 have hl:(iB (cnt os b)).length=((DZ b).filter λf=>decide (0<os.count f)).length:=by
  unfold iB cnt;rw[Gf,DT];rfl
 have hm:∀z,z∈os->z∈(DZ b).filter λf=>decide (0<os.count f):=λz hz=>EI.mpr ⟨EF.mpr (h z hz),decide_eq_true (La.mpr hz)⟩
 have h1:((DZ b).filter λf=>decide (0<os.count f)).length<=1:=by
  rw[<-hl];unfold cq at hp;have:=of_decide_eq_false (GQ.mpr hp);lia
 have g1:=hm x hx;have g2:=hm y hy;generalize (DZ b).filter (λf=>decide (0<os.count f))=l at h1 g1 g2
 match l,h1,g1,g2 with
 | [z],_,g1,g2=>rw[D5.mp g1,D5.mp g2]
 | _::_::_,h1,_,_=>simp at h1
theorem sT{rss:List (List Nat)}{w:Nat}{os ob:List Nat}(hl:∀r∈rss,r.length=w)(hc:c<w)(hP:os.Perm (DZ rss.length))(hS:os.Pairwise (Rk rss (c+1)))(hB:ByF (os.map λp=>(bD rss c).getD p 0) ob):(cmp os ob).Pairwise (Rk rss c):=by
 have hn:os.length=rss.length:=by have:=hP.length_eq;simpa using this
 have hO:=hB.ord;have hr:=hB.rise;rw[DT]at hO;unfold cmp;rw[Gj];refine GA (λ{i j} hi hj h=>?_) hr;have h1:=hO.lt i hi;have h2:=hO.lt j hj;have g1:os.getD i 0=os[i]:=by rw[DS,DR h1];rfl
 have g2:os.getD j 0=os[j]:=by rw[DS,DR h2];rfl
 have m1:os[i]<rss.length:=by simpa using hP.mem_iff.mp (D1 h1)
 have m2:os[j]<rss.length:=by simpa using hP.mem_iff.mp (D1 h2)
 have e1:(os.map λp=>(bD rss c).getD p 0).getD i 0=(bD rss c).getD os[i] 0:=by
  rw[DS,DX,DR h1];rfl
 have e2:(os.map λp=>(bD rss c).getD p 0).getD j 0=(bD rss c).getD os[j] 0:=by
  rw[DS,DX,DR h2];rfl
 rw[g1,g2];rw[e1,e2]at h;refine Rk.col m1 m2 hl hc ?_;rcases h with h|⟨h,hij⟩
 ·exact .inl h
 ·exact .inr ⟨h,EL.mp hS i j h1 h2 hij⟩
theorem sU{rss:List (List Nat)}{w:Nat}{os:List Nat}(hl:∀r∈rss,r.length=w)(hb:∀o∈bD rss c,o<b)(hc:c<w)(hP:os.Perm (DZ rss.length))(hS:os.Pairwise (Rk rss (c+1)))(hp:¬cq (cnt (bD rss c) b)=true):os.Pairwise (Rk rss c):=by
 refine GA (λ{i j} hi hj h=>?_) hS;have m1:i<rss.length:=by simpa using hP.mem_iff.mp hi
 have m2:j<rss.length:=by simpa using hP.mem_iff.mp hj
 refine Rk.col m1 m2 hl hc (.inr ⟨?_,h⟩);have hm:∀i,i<rss.length->(bD rss c).getD i 0∈bD rss c:=λi h=>by
  have h':i<(bD rss c).length:=by simpa [bD]using h
  rw[DS,DR h'];exact D1 h'
 exact iY hb hp (hm i m1) (hm j m2)
theorem kq{rss:List (List Nat)}(h:∀r∈rss,r.length<=c):(DZ rss.length).Pairwise (Rk rss c):=by
 refine GA (λ{i j} hi hj h'=>?_) HJ;have m1:i<rss.length:=by simpa using hi
 have m2:j<rss.length:=by simpa using hj
 have e:∀i,i<rss.length->(rss.getD i []).drop c=[]:=λi hi=>by
  rw[DS,DR hi];exact GN (h _ (D1 hi))
 exact .inr ⟨by rw[e i m1,e j m2],h'⟩
theorem uK{α:Type}{R:α->α->Prop}{P:α->Bool}(hd:∀i j,R i j->P j=true->P i=true):∀{xs:List α},xs.Pairwise R->(∀x∈xs.take (xs.countP P),P x=true)/\∀x∈xs.drop (xs.countP P),P x=false
 | [],_=>⟨λx h=>by simp at h,λx h=>by simp at h⟩
 | x::xs,h=>by
  obtain⟨h1,h2⟩:=FQ.mp h;obtain⟨i1,i2⟩:=uK hd h2;rw[HX];by_cases hx:P x=true
  ·rw[if_pos hx]
   refine⟨λy hy=>?_,λy hy=>i2 y hy⟩;rw[GD]at hy;rcases Eb.mp hy with e|e
   ·rw[e];exact hx
   ·exact i1 y e
  ·have h0:xs.countP P=0:=Iy.mpr λy hy g=>hx (hd x y (h1 y hy) g)
   rw[if_neg hx,h0];refine⟨λy hy=>by simp at hy,λy hy=>?_⟩;rcases Eb.mp hy with e|e
   ·rw[e];exact GQ.mpr hx
   ·exact GQ.mpr λg=>hx (hd x y (h1 y e) g)
noncomputable def gp(rss:List (List Nat))(k j:Nat):Bool:=!lxt (rss.getD k []) (rss.getD j [])
theorem sV{rss:List (List Nat)}{k:Nat}{os:List Nat}(hP:os.Perm (DZ k))(hS:os.Pairwise (Rk rss 0)):
  (os.take (os.countP (gp rss k))++k::os.drop (os.countP (gp rss k))).Perm (DZ (k+1))/\(os.take (os.countP (gp rss k))++k::os.drop (os.countP (gp rss k))).Pairwise (Rk rss 0):=by
 have hd:∀i j,Rk rss 0 i j->gp rss k j=true->gp rss k i=true:=λi j h g=>by
  unfold gp at g ⊢;rw[Ls]at g ⊢;rcases h with h|⟨h,_⟩
  ·rw[EB,EB]at h
   refine GQ.mpr λz=>?_
   rw[gZ z h]at g;cases g
  ·rw[EB,EB]at h;rw[h];exact g
 obtain⟨c1,c2⟩:=uK hd hS;generalize os.countP (gp rss k)=m at c1 c2;have hlt:∀x∈os,x<k:=λx hx=>by simpa using hP.mem_iff.mp hx
 constructor
 ·refine Hf LO ?_
  rw[EW,J0];exact(Mo k hP).trans (Jd k (DZ k)).symm
 ·rw[Fb,FQ]
  have hS':=hS;rw[<-EW m os,Fb]at hS';obtain⟨p1,p2,p3⟩:=hS';refine⟨p1,⟨λj hj=>?_,p2⟩,λi hi j hj=>?_⟩
  ·left
   have:=c2 j hj;unfold gp at this;rw[Bool.not_eq_false']at this;rw[EB,EB];exact this
  ·rcases Eb.mp hj with e|e
   ·rw[e]
    have h1:=c1 i hi;unfold gp at h1;rw[Ls]at h1;unfold Rk;rw[EB,EB];rcases lA (rss.getD i []) (rss.getD k [])with g|g|g
    ·exact .inl g
    ·exact .inr ⟨g,hlt i (FH hi)⟩
    ·rw[g]at h1;cases h1
   ·exact p3 i hi j e
section
variable{X:Cx}{o a b e:Expr}{to ta tb te:TE}{pos p2 tpos:Pos}
def BU(to ta tb:TE):TG:=λv σ H R=>to σ H λx H1=>ta σ H1 λy H2=>tb σ H2 λz H3=>∃(l c:Addr) (xs ys:List V) (i j:Int),x=.ref l/\v=.ref c/\y=.int i/\z=.int j/\H3 l=some (.lst xs)/\H3 c=some (.lst ys)/\l≠c/\0<=i/\i<=j/\j<=xs.length/\xs.length+ys.length<=Ox/\R σ (upd H3 l (.lst (xs.take i.toNat++ys++xs.drop j.toNat)))
theorem zd(ho:PE X o to)(ha:PE X a ta)(hb:PE X b tb)
  (has:∀v,assign (.Subscript o (.Slice (some a) (some b) none p2) pos) X.env v=(do
   let ov <-OR [v] (eval o X.env)
   let iv <-OR [v,ov] (eval (.Slice (some a) (some b) none p2) X.env)
   standAt pos
   OR [v,ov,iv] (setItem ov iv v)
   release [iv,v,ov] []):=by intro _;rfl):PG X (.Subscript o (.Slice (some a) (some b) none p2) pos) (BU to ta tb):=by
 intro pins s σ H v u Q I r h;rw[has];refine Ov (Oy (thn (ho pins s σ H _ I h) λov s1 ⟨x,H1,I1,r1,q1⟩=>?_));refine Ov (Oy (wpAny_Slice (evalPart_some_step (thn (ha pins s1 σ H1 _ I1 q1) λiv s2 ⟨y,H2,I2,r2,q2⟩=>?_))));refine evalPart_some_step (thn (hb pins s2 σ H2 _ I2 q2) λjv s3 ⟨z,H3,I3,r3,q3⟩=>?_);refine evalPart_none_step ?_;obtain⟨l,c,xs,ys,i,j,rfl,rfl,rfl,rfl,hl,hc,hne,h0,hij,hj,hz,q⟩:=q3;cases r1;cases r;have I4:Inv X pins σ H3 { s3 with heap:=s3.heap.push { cls:=.type "slice",data:=.fields #[iv,jv,.none] } }:=I3.kept (t':=s3.toks) λb ob q=>DV _ q
 refine Ov (OX (Ov (Oy (pA I4 hl hc hne (IM ..) r2 r3 h0 hij hj hz λs' I'=>?_))));exact wpAny_release ⟨σ,_,I',q⟩
theorem uL(he:QE X e te)(ho:QE X o to)(ha:QE X a ta)(hb:QE X b tb)
  (has:∀v,assign (.Subscript o (.Slice (some a) (some b) none p2) tpos) X.env v=(do
   let ov <-OR [v] (eval o X.env)
   let iv <-OR [v,ov] (eval (.Slice (some a) (some b) none p2) X.env)
   standAt tpos
   OR [v,ov,iv] (setItem ov iv v)
   release [iv,v,ov] []):=by intro _;rfl)
  (hs:O8 [.Subscript o (.Slice (some a) (some b) none p2) tpos] e pos.line X.env=pure false:=by rfl) (hw:O9 [.Subscript o (.Slice (some a) (some b) none p2) tpos] e X.env=pure none:=by rfl)
  (h1:(OJ [.Subscript o (.Slice (some a) (some b) none p2) tpos] X.env).map (·.2)=[assign (.Subscript o (.Slice (some a) (some b) none p2) tpos) X.env]:=by rfl) :
  QS X (.Assign [.Subscript o (.Slice (some a) (some b) none p2) tpos] e pos) (nC te (BU to ta tb)):=⟨oO he.out (zd ho.out ha.out hb.out has) hs hw h1⟩
theorem wq:QS X (.Continue pos) vn:=⟨kY⟩
end
section
variable{K:DU}{σ:St}{H:Hp}{Q:VK}{D:Ends}
theorem BV{R:St->Hp->Prop}(h:to σ H λx H1=>ta σ H1 λy H2=>tb σ H2 λz H3=>∃(l c:Addr) (xs ys:List V) (i j:Int),x=.ref l/\v=.ref c/\y=.int i/\z=.int j/\H3 l=some (.lst xs)/\H3 c=some (.lst ys)/\l≠c/\0<=i/\i<=j/\j<=xs.length/\xs.length+ys.length<=Ox/\R σ (upd H3 l (.lst (xs.take i.toNat++ys++xs.drop j.toNat)))):BU to ta tb v σ H R:=h
theorem BW(h:D.ct σ H):vn D σ H:=h
theorem dX{k:Nat}{p:Addr}{x z:V}{R:St->Hp->Prop}(e:H p=some (.tup [x,y,z]))(h:R (((σ.set i (some x)).set j (some y)).set k (some z)) H):Aj K 3 (je (dk i) (je (dk j) (je (dk k) yc))) (.ref p) σ H R:=
 ⟨p,_,rfl,Oe e,rfl,_,_,rfl,_,_,rfl,_,_,rfl,rfl,h⟩
theorem g9{c:Addr}(h1:H l=some (.lst xs))(h2:H c=some (.lst ys))(hz:xs.length+ys.length<=Ox)(h:Q .non (upd H l (.lst (xs++ys)))):k8 (.ref l) [.ref c] H Q:=⟨l,c,xs,ys,rfl,rfl,h1,h2,hz,h⟩
theorem qf(h1:H l=some (.lst (xs++[y])))(h:Q y (upd H l (.lst xs))):Bj (.ref l) [] H Q:=⟨l,_,y,rfl,rfl,h1,by simp,by rw[List.dropLast_concat];exact h⟩
end
theorem mN:∀{c:Nat}{a b:List Nat},a.take c=b.take c->c<a.length->c<b.length->a.getD c 0<b.getD c 0->lxt a b=true
 | 0,x::a,y::b,_,_,_,h=>by rw[dv,if_neg (by simp at h;lia)];exact decide_eq_true (by simpa using h)
 | c+1,x::a,y::b,e,h1,h2,h=>by
  rw[GD,GD]at e;injection e with e1 e2
  rw[dv,if_pos e1];exact mN e2 (by simpa using h1) (by simpa using h2) (by simpa using h)
 | _,[],_,_,h1,_,_=>by simp at h1
 | _,_::_,[],_,_,h2,_=>by simp at h2
theorem mO{os:List Nat}{k g:Nat}(hk:k<os.length)(h1:bC os g<=ef os k)(h2:ef os k<bC os (g+1)):os.getD k 0=g:=by
 have r1:=fh hk;have r2:bC os (os.getD k 0)<=ef os k:=by unfold ef;lia
 rcases Fn (os.getD k 0) g with h|h|h
 ·have:=cP (os:=os) (f:=os.getD k 0+1) (g:=g) h;lia
 ·exact h
 ·have:=cP (os:=os) (f:=g+1) (g:=os.getD k 0) h;lia
noncomputable abbrev cA:=Nat×Nat×Nat
structure Msd (rss:List (List Nat)) (C:Nat) (os:List Nat) (ws:List cA):Prop where
 perm:os.Perm (DZ rss.length)
 ok:∀s∈ws,s.1<=s.2.1/\s.2.1<=rss.length/\s.2.2<=C
 dis:ws.Pairwise λs t=>s.2.1<=t.1\/t.2.1<=s.1
 like:∀s∈ws,∀i j,s.1<=i->i<j->j<s.2.1->(rss.getD (os.getD i 0) []).take s.2.2=(rss.getD (os.getD j 0) []).take s.2.2/\os.getD i 0<os.getD j 0
 rest:∀i j,i<j->j<rss.length->Rk rss 0 (os.getD i 0) (os.getD j 0)\/∃s∈ws,s.1<=i/\j<s.2.1
theorem Msd.ok'{rss:List (List Nat)}{C:Nat}{os:List Nat}{ws:List cA}(h:Msd rss C os ws):∀s∈ws,s.2.2<=C:=λs hs=>(h.ok s hs).2.2
theorem iZ(h:i<n):(DZ n).getD i 0=i:=by rw[DS,EX h];rfl
theorem Msd.start(rss:List (List Nat))(C:Nat):Msd rss C (DZ rss.length) [(0,rss.length,0)]:=by
 refine⟨FP _,λs hs=>?_,FJ ..,λs hs i j h1 h2 h3=>?_,λi j h1 h2=>.inr ⟨_,D5.mpr rfl,Ec _,h2⟩⟩
 ·rw[D5.mp hs];exact⟨Ec _,DY _,Ec _⟩
 ·rw[D5.mp hs]at h1 h3 ⊢
  have h3:j<rss.length:=h3;rw[iZ h3,iZ (by lia:i<rss.length)];exact⟨rfl,h2⟩
theorem Msd.done{rss:List (List Nat)}{C:Nat}{os:List Nat}(h:Msd rss C os []):os.Pairwise (Rk rss 0):=by
 have hl:os.length=rss.length:=by have:=h.perm.length_eq;simpa using this
 rw[EL];intro i j hi hj hij;have e1:os.getD i 0=os[i]:=by rw[DS,DR hi];rfl
 have e2:os.getD j 0=os[j]:=by rw[DS,DR hj];rfl
 rcases h.rest i j hij ⋯with g|⟨s,hs,_⟩
 ·rw[e1,e2]at g;exact g
 ·cases hs
theorem Msd.at{rss:List (List Nat)}{C:Nat}{os:List Nat}{ws:List cA}(h:Msd rss C os ws)(hi:i<rss.length):os.getD i 0<rss.length:=by
 have hl:os.length=rss.length:=by have:=h.perm.length_eq;simpa using this
 have hi':i<os.length:=by lia
 rw[DS,DR hi'];simpa using h.perm.mem_iff.mp (D1 hi')
theorem fP{rss:List (List Nat)}{C p:Nat}(hw:∀r∈rss,r.length=C)(hp:p<rss.length):(rss.getD p []).length=C:=by
 rw[DS,DR hp];exact hw _ (D1 hp)
theorem Msd.skip{rss:List (List Nat)}{C:Nat}{os:List Nat}{ws:List cA}{f l:Nat}(h:Msd rss C os (ws++[(f,l,c)]))(hw:∀r∈rss,r.length=C)(hs:l<f+2\/c=C):Msd rss C os ws:=by
 have hm:(f,l,c)∈ws++[(f,l,c)]:=Eg _ (D5.mpr rfl);refine⟨h.perm,λs hs=>h.ok s (EZ _ hs),(Fb.mp h.dis).1,λs hs=>h.like s (EZ _ hs),λi j hij hj=>?_⟩;rcases h.rest i j hij hj with g|⟨s,hs',h1,h2⟩
 ·exact .inl g
 ·rcases Et.mp hs' with g|g
  ·exact .inr ⟨s,g,h1,h2⟩
  ·rw[D5.mp g]at h1 h2
   have h1:f<=i:=h1;have h2:j<l:=h2;rcases hs with hs|hs
   ·lia
   ·obtain⟨e1,e2⟩:=h.like _ hm i j h1 hij h2
    left;right;rw[EB,EB];have e1:(rss.getD (os.getD i 0) []).take c=(rss.getD (os.getD j 0) []).take c:=e1;rw[DW (by rw[fP hw (h.at ⋯)];lia),DW (by rw[fP hw (h.at hj)];lia)]at e1;exact⟨e1,e2⟩
noncomputable def a0(f:Nat)(cs:List Nat)(c:Nat):List cA:=(DZ cs.length).map λg=>(f+(cs.take g).sum,f+(cs.take g).sum+cs.getD g 0,c)
theorem dY{f:Nat}{s:cA}(h:s∈a0 f (cnt row b) c):∃g,g<b/\s=(f+bC row g,f+bC row (g+1),c):=by
 unfold a0 at h;obtain⟨g,hg,rfl⟩:=D4.mp h;rw[bF,EF]at hg;refine⟨g,hg,?_⟩;rw[cj row b g ⋯,cn,DS,cS hg,G4];rfl
theorem n6{f g:Nat}(hg:g<b):(f+bC row g,f+bC row (g+1),c)∈a0 f (cnt row b) c:=by
 unfold a0;refine D4.mpr ⟨g,EF.mpr (by rw[bF];exact hg),?_⟩;rw[cj row b g ⋯,cn,DS,cS hg,G4];rfl
theorem partsF_dis{f:Nat}:(a0 f (cnt row b) c).Pairwise λs t=>s.2.1<=t.1\/t.2.1<=s.1:=by
 unfold a0;rw[Gj];refine GA (λ{g h} hg hh hgh=>?_) HJ;rw[bF,EF]at hg hh;left;have e:(cnt row b).getD g 0=row.count g:=by rw[DS,cS hg];rfl
 show f+((cnt row b).take g).sum+(cnt row b).getD g 0<=f+((cnt row b).take h).sum
 rw[cj row b g ⋯,cj row b h ⋯,e];have:=cP (os:=row) (f:=g+1) (g:=h) hgh;rw[cn]at this;lia
theorem Msd.step{rss:List (List Nat)}{C b:Nat}{os ob:List Nat}{ws:List cA}{f l c:Nat}(h:Msd rss C os (ws++[(f,l,c)]))(hw:∀r∈rss,r.length=C)(hc:c<C)(hb:∀o∈bD rss c,o<b)
  (hB:ByF (((os.drop f).take (l - f)).map λp=>(bD rss c).getD p 0) ob):Msd rss C (os.take f++cmp ((os.drop f).take (l - f)) ob++os.drop l) (ws++(a0 f (cnt (((os.drop f).take (l - f)).map λp=>(bD rss c).getD p 0) b) (c+1)).reverse):=by
 have hm:(f,l,c)∈ws++[(f,l,c)]:=Eg _ (D5.mpr rfl);obtain⟨hfl,hln,_⟩:=h.ok _ hm;have hfl:f<=l:=hfl;have hln:l<=rss.length:=hln;have hol:os.length=rss.length:=by have:=h.perm.length_eq;simpa using this
 have hsl:((os.drop f).take (l - f)).length=l - f:=by rw[Ee,EO];lia
 have hrl:(((os.drop f).take (l - f)).map λp=>(bD rss c).getD p 0).length=l - f:=by rw[DT,hsl]
 have hO:=hB.ord;rw[hrl]at hO;have hrise:=hB.rise;have hold:=h.like _ hm;have hold:∀i j,f<=i->i<j->j<l->(rss.getD (os.getD i 0) []).take c=(rss.getD (os.getD j 0) []).take c/\os.getD i 0<os.getD j 0:=hold
 have segD:∀k,k<l - f->((os.drop f).take (l - f)).getD k 0=os.getD (f+k) 0:=λk hk=>by
  rw[DS,Hi hk,Lb,DS]
 have rowDk:∀k,k<l - f->(((os.drop f).take (l - f)).map λp=>(bD rss c).getD p 0).getD k 0=(bD rss c).getD (os.getD (f+k) 0) 0:=λk hk=>by
  rw[DS,DX,<-segD k hk,DS (l:=(os.drop f).take (l - f)),DR (by lia:k<((os.drop f).take (l - f)).length)];rfl
 have hfig:∀k,k<l - f->(rss.getD (os.getD (f+k) 0) []).getD c 0=(bD rss c).getD (os.getD (f+k) 0) 0:=λk hk=>by
  have:=h.at (i:=f+k) ⋯;unfold bD;rw[DS (l:=rss.map _),DX,DR this,DS (l:=rss),DR this];rfl
 -- where each comes from
 have hpi:∀i,i<rss.length->(f<=i/\i<l->∃k,k<l - f/\ob[i - f]? = some k/\i - f=ef (((os.drop f).take (l - f)).map λp=>(bD rss c).getD p 0) k/\(os.take f++cmp ((os.drop f).take (l - f)) ob++os.drop l).getD i 0=os.getD (f+k) 0)/\(¬(f<=i/\i<l)->(os.take f++cmp ((os.drop f).take (l - f)) ob++os.drop l).getD i 0=os.getD i 0):=by
  intro i hi;have hcl:(cmp ((os.drop f).take (l - f)) ob).length=l - f:=by rw[eG,hO.len]
  have htl:(os.take f).length=f:=by rw[Ee];lia
  constructor
  ·rintro⟨h1,h2⟩
   obtain⟨k,hk,hkl⟩:=hO.get (i:=i - f) ⋯;refine⟨k,hkl,hk,(hB.get hk).2,?_⟩;rw[DS,Ek (by rw[D8,htl,hcl];lia),EE (by rw[htl];exact h1),htl,lp hk (r:=((os.drop f).take (l - f))[k]'⋯) (DR _)];rw[<-segD k hkl,DS,DR ⋯]
  ·intro hn
   by_cases h1:i<f
   ·rw[DS,Ek (by rw[D8,htl];lia),Ek (by rw[htl];exact h1),Hi h1,DS]
   ·rw[DS,EE (by rw[D8,htl,hcl];lia),D8,htl,hcl,Lb,DS]
    congr 2;lia
 have hdis:∀s∈ws,s.2.1<=f\/l<=s.1:=λs hs=>by
  have:=(Fb.mp h.dis).2.2 s hs (f,l,c) (D5.mpr rfl);exact this
 have hlik:∀k1 k2,k1<l - f->k2<l - f->k1≠k2->(rss.getD (os.getD (f+k1) 0) []).take c=(rss.getD (os.getD (f+k2) 0) []).take c:=λk1 k2 h1 h2 hne=>by
  rcases K6 hne with g|g
  ·exact(hold (f+k1) (f+k2) ⋯ ⋯ ⋯).1
  ·exact(hold (f+k2) (f+k1) ⋯ ⋯ ⋯).1.symm
 generalize hrow:((os.drop f).take (l - f)).map (λp=>(bD rss c).getD p 0)=row at *;have hrlt:∀k,k<l - f->row.getD k 0<b:=λk hk=>by
  rw[rowDk k hk];have:=h.at (i:=f+k) ⋯;have h':os.getD (f+k) 0<(bD rss c).length:=by simpa [bD]using this
  rw[DS,DR h'];exact hb _ (D1 h')
 have rise:∀i j k1 k2,i<j->ob[i]? = some k1->ob[j]? = some k2->row.getD k1 0<row.getD k2 0\/row.getD k1 0=row.getD k2 0/\k1<k2:=λi j k1 k2 hij e1 e2=>by
  obtain⟨a1,a2⟩:=D6.mp e1;obtain⟨b1,b2⟩:=D6.mp e2;have:=EL.mp hrise i j a1 b1 hij;rw[a2,b2]at this;exact this
 generalize hos':os.take f++cmp ((os.drop f).take (l - f)) ob++os.drop l=os' at *;refine⟨?_,λs hs=>?_,?_,λs hs i j h1 h2 h3=>?_,λi j hij hj=>?_⟩
 ·rw[<-hos']
  refine Hf ?_ h.perm;have e:os=os.take f++(os.drop f).take (l - f)++os.drop l:=by
   have e1:os.drop l=(os.drop f).drop (l - f):=by rw[F4];congr 1;lia
   rw[e1,EA,EW,EW]
  conv=>rhs;rw[e]
  refine Kc _ (Ie _ ?_);exact fi (by rw[hsl];exact hO.perm)
 ·rcases Et.mp hs with g|g
  ·exact h.ok s (EZ _ g)
  ·obtain⟨z,hz,rfl⟩:=dY (Ft.mp g)
   have:=cP (os:=row) (f:=z) (g:=z+1) ⋯;have:=du row (z+1);exact⟨by show f+_<=f+_;lia,by show f+_<=_;lia,hc⟩
 ·rw[Fb]
  refine⟨(Fb.mp h.dis).1,?_,λs hs t ht=>?_⟩
  ·rw[Kp]
   exact partsF_dis.imp λ{s t} g=>g.symm
  ·obtain⟨z,hz,rfl⟩:=dY (Ft.mp ht)
   have:=du row (z+1);rcases hdis s hs with g|g
   ·left;show s.2.1<=f+_;lia
   ·right;show f+_<=s.1;lia
 ·rcases Et.mp hs with g|g
  ·have:=(h.ok s (EZ _ g)).2.1
   have hd:=hdis s g;rw[(hpi i ⋯).2 ⋯,(hpi j ⋯).2 ⋯];exact h.like s (EZ _ g) i j h1 h2 h3
  ·obtain⟨z,hz,rfl⟩:=dY (Ft.mp g)
   have h1:f+bC row z<=i:=h1;have h3:j<f+bC row (z+1):=h3;have hle:=du row (z+1);obtain⟨k1,hk1,o1,p1,e1⟩:=(hpi i ⋯).1 ⟨by lia,by lia⟩;obtain⟨k2,hk2,o2,p2,e2⟩:=(hpi j ⋯).1 ⟨by lia,by lia⟩;have f1:=mO (os:=row) (k:=k1) (g:=z) ⋯ ⋯ ⋯;have f2:=mO (os:=row) (k:=k2) (g:=z) ⋯ ⋯ ⋯;have hk:k1<k2:=by
    rcases rise (i - f) (j - f) k1 k2 ⋯ o1 o2 with g|⟨_,g⟩
    ·lia
    ·exact g
   obtain⟨t1,t2⟩:=hold (f+k1) (f+k2) ⋯ ⋯ ⋯;rw[e1,e2];refine⟨?_,t2⟩;show(rss.getD (os.getD (f+k1) 0) []).take (c+1)=(rss.getD (os.getD (f+k2) 0) []).take (c+1)
   have l1:=fP hw (h.at (i:=f+k1) ⋯);have l2:=fP hw (h.at (i:=f+k2) ⋯);have g1:=hfig k1 hk1;have g2:=hfig k2 hk2;rw[<-rowDk k1 hk1,f1]at g1;rw[<-rowDk k2 hk2,f2]at g2;rw[D7,D7,t1,DR ⋯,DR ⋯];rw[DS,DR ⋯]at g1 g2;simp only[LK]at g1 g2;rw[g1,g2]
 ·by_cases hin:f<=i/\j<l
  ·obtain⟨k1,hk1,o1,p1,e1⟩:=(hpi i ⋯).1 ⟨by lia,by lia⟩
   obtain⟨k2,hk2,o2,p2,e2⟩:=(hpi j ⋯).1 ⟨by lia,by lia⟩;have hne:k1≠k2:=λz=>by subst z;lia
   rcases rise (i - f) (j - f) k1 k2 ⋯ o1 o2 with g|⟨g,gk⟩
   ·left;left
    rw[EB,EB,e1,e2];refine mN (c:=c) (hlik k1 k2 hk1 hk2 hne) (by rw[fP hw (h.at ⋯)];exact hc) (by rw[fP hw (h.at ⋯)];exact hc) ?_;rw[hfig k1 hk1,hfig k2 hk2,<-rowDk k1 hk1,<-rowDk k2 hk2];exact g
   ·right
    refine⟨_,Eg _ (Ft.mpr (n6 (g:=row.getD k1 0) (hrlt k1 hk1))),?_,?_⟩
    ·show f+bC row (row.getD k1 0)<=i
     have:bC row (row.getD k1 0)<=ef row k1:=by unfold ef;lia
     lia
    ·show j<f+bC row (row.getD k1 0+1)
     have:=fh (os:=row) (k:=k2) ⋯;rw[<-g]at this;lia
  ·-- not both within
   have hout:∀i,i<rss.length->∃i',os'.getD i 0=os.getD i' 0/\((f<=i/\i<l/\f<=i'/\i'<l)\/(¬(f<=i/\i<l)/\i'=i)):=λi hi=>by
    by_cases g:f<=i/\i<l
    ·obtain⟨k1,hk1,o1,p1,e1⟩:=(hpi i hi).1 g
     exact⟨f+k1,e1,.inl ⟨g.1,g.2,by lia,by lia⟩⟩
    ·exact⟨i,(hpi i hi).2 g,.inr ⟨g,rfl⟩⟩
   obtain⟨i',ei,hi'⟩:=hout i ⋯;obtain⟨j',ej,hj'⟩:=hout j hj;rw[ei,ej];have hij':i'<j':=by lia
   have hjn:j'<rss.length:=by lia
   rcases h.rest i' j' hij' hjn with g|⟨s,hs,h1,h2⟩
   ·exact .inl g
   ·rcases Et.mp hs with g|g
    ·have hd:=hdis s g
     have hok:=h.ok s hs;refine .inr ⟨s,EZ _ g,?_,?_⟩<;>lia
    ·rw[D5.mp g]at h1 h2
     have h1:f<=i':=h1;have h2:j'<l:=h2;lia
theorem qg(h:∀x∈row,∀y∈row,x=y):ByF row (DZ row.length):=by
 refine⟨by simp,λk hk=>?_⟩;have e0:row.getD k 0=row[k]:=by rw[DS,DR hk];rfl
 have e1:bC row row[k]=0:=Iy.mpr λx hx g=>by
  have:=h x hx row[k] (D1 hk);have:=of_decide_eq_true g;lia
 have e2:(row.take k).count row[k]=k:=by
  have:(row.take k).count row[k]=(row.take k).length:=List.count_eq_length.mpr λx hx=>h row[k] (D1 hk) x (FH hx)
  rw[this,Ee];lia
 have:ef row k=k:=by unfold ef;rw[e0,e1,e2];lia
 rw[this,EX hk]
theorem qh(seg:List Nat)(h:seg.length=n):cmp seg (DZ n)=seg:=by
 subst h;unfold cmp;exact eh seg
noncomputable def jC(b C:Nat)(ws:List cA):Nat:=(ws.map λs=>(b+1) ^ (C+1 - s.2.2)).sum
theorem i3(b C:Nat)(ws:List cA)(s:cA):jC b C (ws++[s])=jC b C ws+(b+1) ^ (C+1 - s.2.2):=by
 unfold jC;rw[D0,Fd];simp
theorem mP(b C:Nat)(ws:List cA)(s:cA):jC b C ws<jC b C (ws++[s]):=by
 rw[i3];have:0<(b+1) ^ (C+1 - s.2.2):=Ke ⋯;lia
theorem hJ{α:Type}(k:Nat)(f:α->Nat):∀{xs:List α},(∀x∈xs,f x=k)->(xs.map f).sum=xs.length*k
 | [],_=>by simp
 | x::xs,h=>by
  rw[Ez,EJ,h x (Es ..),hJ k f (λy hy=>h y (En _ hy)),Ej,K0];lia
theorem n8{C f l:Nat}(ws:List cA)(hc:c<C)(hl:cs.length=b):jC b C (ws++(a0 f cs (c+1)).reverse)<jC b C (ws++[(f,l,c)]):=by
 rw[i3];unfold jC;rw[D0,Fd,hJ ((b+1) ^ (C+1 - (c+1))) _ (xs:=(a0 f cs (c+1)).reverse) (λs hs=>by
  unfold a0 at hs;obtain⟨g,_,rfl⟩:=D4.mp (Ft.mp hs);rfl),F3]
 have e1:(a0 f cs (c+1)).length=b:=by unfold a0;simp[hl]
 have e2:C+1 - c=(C+1 - (c+1))+1:=by lia
 rw[e1];show _<_+(b+1) ^ (C+1 - c)
 rw[e2,Im,M7 ((b+1) ^ (C+1 - (c+1))) (b+1),Nat.add_mul,Ny];have:0<(b+1) ^ (C+1 - (c+1)):=Ke ⋯;lia
noncomputable def fo(ws:List cA):Nat:=(ws.map λs=>s.2.1 - s.1 - 1).sum
theorem lB(ws:List cA)(s:cA):fo (ws++[s])=fo ws+(s.2.1 - s.1 - 1):=by
 unfold fo;rw[D0,Fd];simp
theorem jD:∀cs:List Nat,(cs.map λc=>c - 1).sum+(iB cs).length=cs.sum
 | []=>rfl
 | c::cs=>by
  have ih:=jD cs;unfold iB at ih ⊢;rw[Ez,EJ,EJ];by_cases h:0<c
  ·rw[JJ (by simpa using h),Ej];lia
  ·rw[JK (by simpa using h)];lia
theorem kr(ws:List cA)(f c:Nat)(cs:List Nat):fo (ws++(a0 f cs c).reverse)+(iB cs).length=fo ws+cs.sum:=by
 unfold fo;rw[D0,Fd,HS,LP];have e:(a0 f cs c).map (λs=>s.2.1 - s.1 - 1)=cs.map λc=>c - 1:=by
  unfold a0;rw[ED];apply GX (by simp);intro i h1 h2;have hi:i<cs.length:=by simpa using h2
  simp[DS,DR hi]
 rw[e];have:=jD cs;lia
def Low(b:Nat)(ws:List cA):Prop:=∀(i:Nat) s,ws[i]? = some s->i<=b*s.2.2
theorem Low.left{ws vs:List cA}(h:Low b (ws++vs)):Low b ws:=λi s e=>h i s (by rw[Ek (br e)];exact e)
theorem Low.step{b f l c:Nat}{ws:List cA}{cs:List Nat}(h:Low b (ws++[(f,l,c)]))(hl:cs.length=b):Low b (ws++(a0 f cs (c+1)).reverse):=λi s e=>by
 have h0:ws.length<=b*c:=h ws.length (f,l,c) (by simp);by_cases hi:i<ws.length
 ·exact h i s (by rw[Ek hi]at e ⊢;exact e)
 ·rw[EE ⋯]at e
  have hm:=Ew e;have hlt:=br e;unfold a0 at hm hlt;rw[F3,DT,Ff,hl]at hlt;obtain⟨g,_,rfl⟩:=D4.mp (Ft.mp hm);show i<=b*(c+1)
  rw[LB,LC];lia
theorem Low.len{C:Nat}{ws:List cA}(h:Low b ws)(hc:∀s∈ws,s.2.2<=C):ws.length<=b*C+1:=by
 cases hw:ws.length with
 | zero=>lia
 | succ n=>
  have e:ws[n]? = some (ws[n]'⋯):=DR _;have h1:=h n _ e;have h2:=hc _ (D1 (by lia:n<ws.length));have h3:b*(ws[n]'⋯).2.2<=b*C:=Iz b h2;lia
def TrAt(H:Hp)(qs:List Addr)(ws:List cA):Prop:=qs.length=ws.length/\∀(i:Nat) q s,qs[i]? = some q->ws[i]? = some s->H q=some (.tup [.int (s.1:Nat),.int (s.2.1:Nat),.int (s.2.2:Nat)])
theorem TrAt.same{H:Hp}{ws:List cA}(h:TrAt H qs ws)(s:Same H H1):TrAt H1 qs ws:=⟨h.1,λi q t a b=>s _ _ (h.2 i q t a b)⟩
theorem TrAt.own{H:Hp}{ws:List cA}(h:TrAt H qs ws)(hl:H l=some (.lst xs)):TrAt (upd H l (.lst ys)) qs ws:=⟨h.1,λi q t a b=>by
 have e:=h.2 i q t a b;rw[aB (iC e hl (by intro c;cases c))];exact e⟩
theorem TrAt.snoc{H:Hp}{ws:List cA}{q:Addr}{s:cA}(h:TrAt H qs ws)(e:H q=some (.tup [.int (s.1:Nat),.int (s.2.1:Nat),.int (s.2.2:Nat)])):TrAt H (qs++[q]) (ws++[s]):=by
 refine⟨by simp[h.1],λi p y a b=>?_⟩;rcases aX a with⟨l,a⟩|⟨l,a⟩
 ·rcases aX b with⟨_,b⟩|⟨l',b⟩
  ·exact h.2 i p y a b
  ·have:=h.1;lia
 ·rcases aX b with⟨l',b⟩|⟨_,b⟩
  ·have:=h.1;lia
  ·rw[a,b];exact e
theorem TrAt.app{H:Hp}{rs:List Addr}{ws vs:List cA}(h:TrAt H qs ws)(g:TrAt H rs vs):TrAt H (qs++rs) (ws++vs):=by
 refine⟨by simp[h.1,g.1],λi p y a b=>?_⟩;have hl:=h.1;by_cases hi:i<qs.length
 ·rw[Ek hi]at a
  rw[Ek ⋯]at b;exact h.2 i p y a b
 ·rw[EE ⋯]at a
  rw[EE ⋯,<-hl]at b;exact g.2 _ p y a b
theorem TrAt.rev{H:Hp}{ws:List cA}(h:TrAt H ps ws):TrAt H ps.reverse ws.reverse:=by
 refine⟨by simp[h.1],λi q y a b=>?_⟩;have hl:i<ps.length:=by have:=(D6.mp a).1;simpa using this
 rw[Ic hl]at a;rw[Ic (by rw[<-h.1];exact hl),<-h.1]at b;exact h.2 _ q y a b
theorem TrAt.last{H:Hp}{ws:List cA}(h:TrAt H qs ws)(hq:qs≠[]):∃rs q vs s,qs=rs++[q]/\ws=vs++[s]/\TrAt H rs vs/\H q=some (.tup [.int (s.1:Nat),.int (s.2.1:Nat),.int (s.2.2:Nat)]):=by
 rcases Ig qs with e|⟨rs,q,e⟩
 ·exact absurd e hq
 ·rcases Ig ws with e2|⟨vs,s,e2⟩
  ·have:=h.1;rw[e,e2]at this;simp at this
  ·rw[Kq]at e e2
   subst e e2;have hl:rs.length=vs.length:=by have:=h.1;simpa using this
   refine⟨rs,q,vs,s,rfl,rfl,⟨hl,λi p t a b=>?_⟩,?_⟩
   ·exact h.2 i p t (by rw[Ek (br a)];exact a) (by rw[Ek (br b)];exact b)
   ·exact h.2 rs.length q s (by simp) (by simp[hl])
theorem qi(os:List Nat){f l:Nat}(h1:f<=l)(h2:l<=os.length):iA (NV os) (some (f:Int)) (some (l:Int))=NV ((os.drop f).take (l - f)):=by
 unfold iA;rw[HT.dm,HT.dm,aC,Gd (by lia:f<=os.length),Gd h2];unfold NV;rw[Gi,GG]
def Sc(v:V):Prop:=v=.non\/(∃b,v=.bl b)\/(∃i,v=.int i)\/∃x,v=.str x
section
variable{X:Cx}{e e2 o:Expr}{to te:TE}{t:TA}{pos apos cpos:Pos}
inductive TyC (H:Hp):V->Value->Prop where
 | non:TyC H .non (.type "NoneType")
 | bl (b:Bool):TyC H (.bl b) (.type "bool")
 | int (i:Int):TyC H (.int i) (.type "int")
 | str (x:Str):TyC H (.str x) (.type "str")
 | lst {a:Addr}{xs:List V}(e:H a=some (.lst xs)):TyC H (.ref a) (.type "list")
 | tup {a:Addr}{xs:List V}(e:H a=some (.tup xs)):TyC H (.ref a) (.type "tuple")
def sW (K:DU):RC:=λxs H Q=>∃x t tp b,xs=[x,.ref tp]/\H tp=some (.tup [.ty "list",.ty "tuple"])/\TyC H x t/\Mn K t [.type "list",.type "tuple"]=some b/\Q (.bl b) H
theorem dJ {K:DU}(hK:X.K=K:=by rfl):QC X (.builtin "isinstance") (sW K):=by
 subst hK;refine⟨λpins s σ H xs us Q I r h=>?_⟩;obtain⟨x,t,tp,b,rfl,htp,ty,e,q⟩:=h;cases r with
 | cons rx rr=>
  cases rr with
  | cons ry rr=>
   cases rr;cases ry;obtain⟨_,its,rv,⟨⟨c,dd,dt,sl⟩,g1,g2,n,g3⟩⟩:=(show ObjOk X.prog X.w H s.heap tp (.tup [.ty "list",.ty "tuple"])from I.hok tp _ htp);have g2':c=.type "tuple":=g2;have g3':dt=.seq its.toArray n:=g3;subst g2' g3';have ei:its=[.type "list",.type "tuple"]:=by
    cases rv with
    | cons r1 rr=>
     cases rr with
     | cons r2 rr=>
      cases rr;cases r1;cases r2;rfl
   subst ei;have fin:∀tk,EP X pins σ Q (.bool b) { s with toks:=tk }:=λtk=>⟨.bl b,H,I.tok _,rfl,q⟩
   cases ty with
   | non=>cases(show _=EN from rx);exact Fy Jh I.kIn D3 g1 e (λz=>nomatch z) fin
   | bl i=>cases(show _=Gk i from rx);exact Fy Lj I.kIn D3 g1 e (λz=>nomatch z) fin
   | int i=>obtain⟨tt,rfl⟩:=rx;exact Fy Jw I.kIn D3 g1 e (λz=>nomatch z) fin
   | str i=>obtain⟨tt,rfl⟩:=rx;exact Fy LG I.kIn D3 g1 e (λz=>nomatch z) fin
   | @lst a xs ea=>
    cases rx;obtain⟨_,_,n',_,h1⟩:=(show ObjOk X.prog X.w H s.heap a (.lst xs)from I.hok a _ ea);exact Fy Hw I.kIn ⟨_,h1,rfl⟩ g1 e (λz=>nomatch z) fin
   | @tup a xs ea=>
    cases rx;obtain⟨_,_,_,⟨o',h1,h2,_⟩⟩:=(show ObjOk X.prog X.w H s.heap a (.tup xs)from I.hok a _ ea);exact Fy IK I.kIn ⟨_,h1,h2⟩ g1 e (λz=>nomatch z) fin
theorem hX(l:Addr)(items:Array Value)(n:Nat)(b:Addr)(items2:Array Value)(n2:Nat)(dd2:Option Addr)(sl2:Array (Option Value))(hlong:¬(!items.isEmpty && FA (items.size+items2.size))=true)(hz:items.size<=Ox)(hz2:items.size+items2.size<=Ox+1):
  Meets (Builtin.«list.extend» ⟨[.ref l,.ref b],[]⟩)
   (λ_ R s=>s.heap.get? l=some { cls:=.type "list",data:=.seq items n }/\s.heap.get? b=some { cls:=.type "tuple",dict:=dd2,data:=.seq items2 n2,slots:=sl2 }/\
    R (.ok (.ret .none)) { s with heap:=s.heap.update l (E6 λx=>x++items2) }):=
 .of_wp λprog w A R s h=>by
  obtain⟨hp,g,d,tk,os⟩:=s;obtain⟨hl,hb,h⟩:=h;have f2:=Hj
  wp_walk using Iq hl,Iq hb
  have e9:(E6 (λx=>x++items2) { cls:=GW "list",data:=M8 items n }).data.pastItsLine=none:=by
   unfold E6 Data.pastItsLine;simp;lia
  rw[e9];exact Ow (Ow ⟨_,rfl,h⟩)
def jE:V->List V->Hp->VK->Prop:=λx vs H Q=>∃l b xs zs,x=.ref l/\vs=[.ref b]/\H l=some (.lst xs)/\H b=some (.tup zs)/\xs.length+zs.length<=Ox/\Q .non (upd H l (.lst (xs++zs)))
theorem n9:MtM X "list.extend" jE:=by
 intro pins s σ H x vs v us Q I rx rv h;obtain⟨l,b,xs,zs,rfl,rfl,hH,hB,hz,q⟩:=h;cases rx;obtain⟨u,rfl,ru⟩:=rv.one;cases ru;obtain⟨z,its,n,r,hl,e⟩:=I.lstM hH;obtain⟨its2,r2,⟨⟨c2,d2,t2,l2⟩,o4,o5,n2,o6⟩,hz2⟩:=I.tuple (Oe hB);have hl2:=r2.length;have o5':c2=.type "tuple":=o5;have o6':t2=.seq its2.toArray n2:=o6;subst o5' o6';have hsz:its.toArray.size+its2.toArray.size<=Ox:=by rw[D9,D9];lia
 have hlong:¬(!its.toArray.isEmpty && FA (its.toArray.size+its2.toArray.size))=true:=by
  rw[eV hsz,Ml];exact Ei
 refine O6 KZ ⟨_,e,rfl⟩ KP (Kz _ _)
  (hX l its.toArray n b its2.toArray n2 d2 l2 hlong (by rw[D9];lia) ⋯) ⟨e,o4,?_⟩
 refine⟨.non,_,I.lset (its':=its++its2) hH e (by simp) (r.append r2) ?_,rfl,q⟩;rw[D8];lia
theorem og {K:DU}(ho:QE X o to) (ha:QA X [e] t) (hbase:attributeBase o ("extend" : Str) X.env (eval o X.env)=eval o X.env:=by rfl) (hline:(apos.endLine == cpos.line)=true:=by rfl) (hn:bS e=true:=by rfl) (hK:X.K=K:=by rfl) :
  QE X (.Call (.Attribute o "extend" apos) [e] [] cpos) (tBM K "list" jE to t):=by subst hK;exact⟨mf FI JB JC n9 ho.out ha.out hbase hline hn⟩
end
section
variable{K:DU}{σ:St}{H:Hp}{Q:VK}
theorem dw {x:V}(e:H tp=some (.tup [.ty "list",.ty "tuple"])) (hx:Sc x) (h:Q (.bl false) H):sW K [x,.ref tp] H Q:=by
 rcases hx with rfl|⟨b,rfl⟩|⟨i,rfl⟩|⟨s,rfl⟩
 ·exact⟨_,_,tp,_,rfl,e,.non,rfl,h⟩
 ·exact⟨_,_,tp,_,rfl,e,.bl b,rfl,h⟩
 ·exact⟨_,_,tp,_,rfl,e,.int i,rfl,h⟩
 ·exact⟨_,_,tp,_,rfl,e,.str s,rfl,h⟩
theorem mQ {p:Addr}(s:H p=some (.lst xs)) (e:H tp=some (.tup [.ty "list",.ty "tuple"])) (h:Q (.bl true) H):sW K [.ref p,.ref tp] H Q:=⟨_,_,tp,_,rfl,e,.lst s,rfl,h⟩
theorem mR {p:Addr}(s:H p=some (.tup xs)) (e:H tp=some (.tup [.ty "list",.ty "tuple"])) (h:Q (.bl true) H):sW K [.ref p,.ref tp] H Q:=⟨_,_,tp,_,rfl,e,.tup s,rfl,h⟩
theorem gA {x:V}(hx:Sc x) (h:Q (.bl false) H):mi K [x,.ty "list"] H Q:=by
 rcases hx with rfl|⟨b,rfl⟩|⟨i,rfl⟩|⟨s,rfl⟩
 ·exact⟨_,_,_,_,rfl,.non,rfl,h⟩
 ·exact⟨_,_,_,_,rfl,.bl b,rfl,h⟩
 ·exact⟨_,_,_,_,rfl,.int i,rfl,h⟩
 ·exact⟨_,_,_,_,rfl,.str s,rfl,h⟩
theorem gB {x:V}(hx:Sc x) (h:Q (.bl false) H):mi K [x,.ty "tuple"] H Q:=by
 rcases hx with rfl|⟨b,rfl⟩|⟨i,rfl⟩|⟨s,rfl⟩
 ·exact⟨_,_,_,_,rfl,.non,rfl,h⟩
 ·exact⟨_,_,_,_,rfl,.bl b,rfl,h⟩
 ·exact⟨_,_,_,_,rfl,.int i,rfl,h⟩
 ·exact⟨_,_,_,_,rfl,.str s,rfl,h⟩
theorem Az {b:Bool}(h:Q (.bl true) H):mi K [.bl b,.ty "bool"] H Q:=⟨_,_,_,_,rfl,.bl b,rfl,h⟩
theorem AA (h:Q (.bl false) H):mi K [.str x,.ty "bool"] H Q:=⟨_,_,_,_,rfl,.str x,rfl,h⟩
theorem AC (h:Q (.bl true) H):mi K [.str x,.ty "str"] H Q:=⟨_,_,_,_,rfl,.str x,rfl,h⟩
theorem C2{x y:Bool}(h:Q (.bl (decide (Og x=Og y))) H):rEq (.bl x) (.bl y) H Q:=⟨rfl,h⟩
theorem oh{c:Addr}(h1:H l=some (.lst xs))(h2:H c=some (.tup ys))(hz:xs.length+ys.length<=Ox)(h:Q .non (upd H l (.lst (xs++ys)))):jE (.ref l) [.ref c] H Q:=⟨l,c,xs,ys,rfl,rfl,h1,h2,hz,h⟩
end
theorem ze(n:Nat):Fq 0 (n:Int) 2=((n+1) / 2:Nat):=by
 unfold Fq;rw[if_pos (by decide)];split
 ·lia
 ·lia
theorem di{i:Int}(h1:-1000000<=i)(h2:i<=1000000):GU i=true:=by
 unfold GU;rw[EH];exact⟨decide_eq_true (K1 (by decide) h1),decide_eq_true (Int.lt_of_le_of_lt h2 (by decide))⟩
theorem zf(h:n<=1000):G8 0 (n:Int) 2=true:=by
 unfold G8;rw[ze,di (i:=0) (by decide) (by decide),di (i:=(n:Int)) ⋯ ⋯,di (i:=2) (by decide) (by decide),di (i:=(((n+1) / 2:Nat):Int)) ⋯ ⋯,if_pos (by decide),di (i:=(n:Int)+(2 - 1)) ⋯ ⋯,K2];rfl
def It2(n:Nat):It:=⟨λi _=>i<(n+1) / 2,λi H x H'=>H'=H/\x=.int ((2*i:Nat):Int),λi _=>(n+1) / 2<=i⟩
theorem lC{w:World}{K:DU}(it:Addr)(n:Nat):Turn P w K tg (It2 n) [it] it (λi h=>IsRangeIter h it ((0:Int)+(i:Nat)*2) ((((n+1) / 2:Nat):Int) - (i:Nat)) 2) where
 mem:=by simp
 obj:=λi h st b hb=>by
  have e:b=it:=by simpa using hb
  subst e;exact⟨_,st,λv z=>by
   have z':Ly _=Mt v:=z;cases z'⟩
 keep:=λi h h' st k=>k it (by simp) _ st
 item:=by
  intro X hP hw hK hc i pins s σ H E I hf st hg;subst hP hw hK;obtain⟨f0,f1,f2,f3,f4,f5⟩:=hf it (by simp);have hi:i<(n+1) / 2:=hg;have W:=Lz (prog:=X.prog) (w:=X.w) (I.ok.hd hc) it 0 2 ((n+1) / 2);refine W.item i s _ _ hg st λv h' tk hv st' kk=>?_
  obtain⟨t,rfl⟩:=hv;have I1:Inv X pins σ H { s with heap:=h',toks:=tk }:=I.turned (λb o hb e=>kk b o (by simpa using hb) e) f0 f1 f3 f4 f5;refine⟨_,rfl,nD (s:={ s with heap:=h',toks:=tk }) (n:="range_iterator") st' rfl rfl (by decide) ⟨.int ((2*i:Nat):Int),H,I1,⟨t,?_⟩,⟨rfl,rfl⟩,st',λb hb=>(hf b hb).1⟩⟩;congr 1;lia
 done:=by
  intro X hP hw hK hc i pins s σ H E I hf st hg;subst hP hw hK;obtain⟨f0,f1,f2,f3,f4,f5⟩:=hf it (by simp);exact wpAny_pyNext_range_end (I.ok.hd hc) st (by have:(n+1) / 2<=i:=hg;lia) λh' eb=>⟨rfl,I.turned (t':=s.toks) (λb o hb e=>eb b o hb e) f0 f1 f3 f4 f5⟩
 self:=λ_ _ _ _ _ st h=>wpAny_pyIter_rangeiter st h
section
variable{X:Cx}{tg a b c:Expr}{t:TA}{p pos:Pos}
def zg(t:TA):TI:=λσ H R=>t σ H λvs H1=>∃n:Nat,vs=[.int 0,.int (n:Nat),.int 2]/\n<=1000/\R (It2 n) H1
theorem qj (hg:Gl X "range") (hm:X.mg "range" = none) (ha:QA X [a,b,c] t) (hn:bS a=true:=by rfl) (hn2:bS b=true:=by rfl) (hn3:bS c=true:=by rfl):QI X tg (.Call (.Name "range" p) [a,b,c] [] pos) (zg t):=by
 refine⟨λpins s σ H R I h=>?_⟩;have e3:starEach [c] X.env=[(false,eval c X.env)]:=aM hn3;have e2:starEach [b,c] X.env=[(false,eval b X.env),(false,eval c X.env)]:=by rw[aM hn2,e3]
 refine Call_ (de I hg hm boot_range (EY (thn (ha.out pos pins s σ H _ I h) λus s1 ⟨vs,H1,I1,r1,q1⟩=>?_) (aM hn) (by rw[e2];rfl)));obtain⟨n,e,hn1,q⟩:=q1;subst e;cases r1 with
 | cons r rr=>
  cases rr with
  | cons r' rr=>
   cases rr with
   | cons r'' rr=>
    cases rr;obtain⟨t1,rfl⟩:=r;obtain⟨t2,rfl⟩:=r';obtain⟨t3,rfl⟩:=r'';refine call_range_3 (by decide) ?_ (.inl (Hl (by decide +kernel)));refine wpAny_pyIter_range (J9 ..) (zf hn1) ?_;have I2:Inv X pins σ H1 { s1 with heap:=s1.heap.push { cls:=.type "range",data:=.fields #[.int 0 t1,.int ((n:Nat):Int) t2,.int 2 t3] },toks:=s1.toks }:=I1.kept λb o e=>DV _ e
    refine⟨_,[(s1.heap.push { cls:=.type "range",data:=.fields #[.int 0 t1,.int ((n:Nat):Int) t2,.int 2 t3] }).objs.size],_,_,H1,rfl,I2.kept (t':=s1.toks) λb o e=>DV _ e,lC _ n,?_,λb hb=>?_,q⟩
    ·show IsRangeIter _ _ ((0:Int)+((0:Nat):Int)*2) ((((n+1) / 2:Nat):Int) - ((0:Nat):Int)) 2
     have g1:(0:Int)+((0:Nat):Int)*2=0:=by simp
     have g2:(((n+1) / 2:Nat):Int) - ((0:Nat):Int)=Fq 0 (n:Int) 2:=by rw[ze];simp
     rw[g1,g2];exact Ea _ rfl
    ·have e:b=(s1.heap.push { cls:=.type "range",data:=.fields #[.int 0 t1,.int ((n:Nat):Int) t2,.int 2 t3] }).objs.size:=by simpa using hb
     subst e;exact I2.fpOk (DY _) (I2.hok.fresh (DY _))
end
theorem BX{H:Hp}{t:TA}{R:It->Hp->Prop}(h:t σ H λvs H1=>∃n:Nat,vs=[.int 0,.int (n:Nat),.int 2]/\n<=1000/\R (It2 n) H1):zg t σ H R:=h
section
variable{X:Cx}{e o b:Expr}{to tb te:TE}{pos tpos:Pos}
def zh(K:DU):V->V->Hp->VK->Prop:=λo i H Q=>∃a xs v,o=.ref a/\i=.int (-1)/\SqL K H a xs/\xs.getLast? = some v/\Q v H
theorem qk:A1 X (zh X.K):=by
 intro pins s σ H o i ov iv Q I ro ri h;obtain⟨a,xs,v,rfl,rfl,hq,hv,q⟩:=h;cases ro;obtain⟨t,rfl⟩:=ri;obtain⟨its,r,pl,hz⟩:=I.list hq;have hl:=r.length;have hn:=ee;have hne:xs≠[]:=λz=>by rw[z]at hv;cases hv
 have hpos:0<xs.length:=Fm.mpr hne;rw[List.getLast?_eq_getElem?]at hv;obtain⟨w,ew,rw'⟩:=r.get hv;have hj:((-1:Int)+(its.toArray.size:Int)).toNat=xs.length - 1:=by rw[D9];lia
 exact wpAny_getItem_list_neg pl.isList (by decide) (by rw[D9]<;>lia) (by decide) (by rw[hj];simpa using ew) ⟨v,H,I,rw',q⟩
theorem sX{K:DU}(ho:QE X o to)(hi:QE X b tb)(he:QE X e te)(ha:∀ov iv new,augStore b ov iv new=(do OR [new,ov,iv] (setItem ov iv new);release [new,ov,iv] [];pure .next):=by intros;rfl)(hK:X.K=K:=by rfl):
  QS X (.AugAssign (.Subscript o b tpos) .Add e pos) (rJ to tb te (zh K) (ipI λi j=>i+j) nM):=by subst hK;exact⟨oP ho.out hi.out qk he.out uo jg ha⟩
end
end L2
namespace HT
open PySem PyProof.Rows L2
section
variable{prog:Program}{w:World}{A:Around}{E:Value->Shared->Prop}{s:Shared}
theorem fQ{t:Addr}{lo hi:Option Int}(ht:IsTup s.heap t items)(hs:s.heap.IsSliceOf sl vl vu .none)(pl:IsPart vl lo)(pu:IsPart vu hi)
  (hw:sIx items.size 0 lo=0/\sIx items.size items.size hi=items.size) (h:Q (.ref t) s):wpAny (model prog w) A (getItem (.ref t) (.ref sl)) Q E s:=by
 obtain⟨os,hos,hcs,hds⟩:=id hs;have hTs:s.TypeIs (.ref sl) "slice":=⟨os,hos,hcs⟩;unfold getItem
 try with_reducible refine Oy ?_
 first|refine Ov (Ow ?_)|skip
 refine Ov (wpAny_sequenceKey ht.typeIs (by decide) ?_);refine Ov (OE (name:=Ey "__getitem__") ht.typeIs Fg
  (OG Fg ht.typeIs entry_tuple_getitem ?_ (args_tuple_getitem _ _)))
 show wpAny _ _ (Jb (.ref t) >>= _) _ _ s
 refine Ov (tupleItemsOf_ ht ?_);refine Ov (O4 hTs ?_);rw[if_pos (by decide)];refine Ov (dz hs pl pu ?_);have hyes:(((sIx items.size 0 lo:Nat):Int) == 0 && (1:Int) == 1 && (sIx items.size items.size hi - sIx items.size 0 lo) == items.size)=true:=by
  rw[hw.1,hw.2];simp
 show wpAny _ _ (if(((sIx items.size 0 lo:Nat):Int) == 0 && (1:Int) == 1 && (sIx items.size items.size hi - sIx items.size 0 lo) == items.size)=true then _ else _) _ _ s
 rw[if_pos hyes];refine Ov (Ov (O4 ht.typeIs (Ow ?_)));rw[if_pos (by decide)];refine Ov (O1 ?_);exact Ow ⟨_,rfl,Ow h⟩
end
end HT
namespace L2
open PySem PySem.Spec PyProof.Rows
section
variable{X:Cx}{tg a b:Expr}{t:TA}{p pos:Pos}
def zi:V->Option Int->Option Int->Hp->VK->Prop:=λx lo hi H Q=>∃a xs,x=.ref a/\H a=some (.tup xs)/\∀p H',Same H H'->H' p=some (.tup (iA xs lo hi))->Q (.ref p) H'
theorem wt:SlR X zi:=by
 intro pins s σ H x v vl vu lo hi sl Q I rx hs pl pu h;obtain⟨a,xs,rfl,hx,q⟩:=h;by_cases hw:HT.sIx xs.length 0 lo=0/\HT.sIx xs.length xs.length hi=xs.length
 ·cases rx
  obtain⟨its,r,ht,hz⟩:=I.tuple (Oe hx);have hlen:its.toArray.size=xs.length:=by rw[D9];exact r.length.symm
  refine⟨"tuple",_,Fg.lookup,ht.typeIs,?_⟩;refine HT.fQ ht hs pl pu (by rw[hlen];exact hw) ⟨.ref a,H,I,rfl,q a H (Oi H) ?_⟩;rw[hx];unfold iA;rw[hw.1,hw.2,EB,Io,DW (DY _)]
 ·exact yy pins s σ H _ v vl vu lo hi sl Q I rx hs pl pu ⟨a,xs,rfl,Oe hx,hw,λp hp=>q p _ ((Oi H).new hp) aj⟩
theorem uM:QSl X zi:=⟨wt⟩
end
section
variable{K:DU}{σ:St}{H:Hp}{Q:VK}
end
noncomputable def rnd:Nat->List Nat->List cA×List Nat
 | f,a::b::r=>((f,f+a,f+a+b)::(rnd (f+a+b) r).1,(a+b)::(rnd (f+a+b) r).2)
 | _,[a]=>([],[a])
 | _,[]=>([],[])
theorem fR(f a b:Nat)(r:List Nat):rnd f (a::b::r)=((f,f+a,f+a+b)::(rnd (f+a+b) r).1,(a+b)::(rnd (f+a+b) r).2):=by rw[rnd]
theorem fS(f a:Nat):rnd f [a]=([],[a]):=by rw[rnd]
theorem dM(f:Nat):rnd f []=([],[]):=by rw[rnd]
theorem hZ(f:Nat)(ls:List Nat):(rnd f ls).2.length=(ls.length+1) / 2/\(rnd f ls).1.length+(rnd f ls).2.length=ls.length:=by
 induction f,ls using rnd.induct with
 | case1 f a b r ih=>rw[fR];simp only[Ej];lia
 | case2 f a=>rw[fS];simp
 | case3 f=>rw[dM];simp
theorem ql(f:Nat)(ls:List Nat):(rnd f ls).2.sum=ls.sum:=by
 induction f,ls using rnd.induct with
 | case1 f a b r ih=>rw[fR];simp only[EJ];lia
 | case2 f a=>rw[fS]
 | case3 f=>rw[dM]
theorem zj(f:Nat)(ls:List Nat):∀s∈(rnd f ls).1,f<=s.1/\s.1<=s.2.1/\s.2.1<=s.2.2/\s.2.2<=f+ls.sum:=by
 induction f,ls using rnd.induct with
 | case1 f a b r ih=>
  rw[fR];intro s hs;rcases Eb.mp hs with e|e
  ·rw[e];simp only[EJ];lia
  ·have:=ih s e
   simp only[EJ];lia
 | case2 f a=>rw[fS];intro s hs;cases hs
 | case3 f=>rw[dM];intro s hs;cases hs
noncomputable def eL(ls:List Nat):List cA:=if h:1<ls.length then(rnd 0 ls).1++eL (rnd 0 ls).2 else[]
termination_by ls.length
decreasing_by have:=(hZ 0 ls).1;lia
theorem ia{ls:List Nat}(h:1<ls.length):eL ls=(rnd 0 ls).1++eL (rnd 0 ls).2:=by rw[eL,dif_pos h]
theorem fq{ls:List Nat}(h:¬ 1<ls.length):eL ls=[]:=by rw[eL,dif_neg h]
theorem i4:∀(m:Nat) (ls:List Nat),ls.length<=m->(eL ls).length<=ls.length/\∀s∈eL ls,s.1<=s.2.1/\s.2.1<=s.2.2/\s.2.2<=ls.sum
 | 0,ls,h=>by rw[fq ⋯];exact⟨Ec _,λs hs=>nomatch hs⟩
 | m+1,ls,h=>by
  by_cases g:1<ls.length
  ·obtain⟨l1,l2⟩:=hZ 0 ls
   obtain⟨h1,h2⟩:=i4 m (rnd 0 ls).2 ⋯;rw[ia g];refine⟨by rw[D8];lia,λs hs=>?_⟩;rcases Et.mp hs with e|e
   ·have:=zj 0 ls s e;lia
   ·have:=h2 s e
    rw[ql]at this;exact this
  ·rw[fq g];exact⟨Ec _,λs hs=>nomatch hs⟩
noncomputable def brk(rss:List (List Nat))(k:Nat):Bool:=lxt (rss.getD k []) (rss.getD (k - 1) [])
noncomputable def xK(xs:List Nat):List Nat:=xs.set (xs.length - 1) (xs.getLastD 0+1)
noncomputable def b6(rss:List (List Nat)):Nat->List Nat
 | 0=>[]
 | m+1=>if 0<m/\brk rss m=false then xK (b6 rss m)else b6 rss m++[1]
theorem ib(xs:List Nat)(a:Nat):xK (xs++[a])=xs++[a+1]:=by
 unfold xK;rw[D8,EV,IT,List.getLastD_concat];simp
theorem ic(rss:List (List Nat))(m:Nat):b6 rss (m+1)≠[]:=by
 induction m with
 | zero=>rw[b6,if_neg ⋯];simp
 | succ m ih=>
  rw[b6];split
  ·unfold xK
   intro z;have:=congrArg G7 z;rw[JW]at this;exact ih (Fi.mp this)
  ·simp
theorem lD{xs:List Nat}(h:xs≠[]):∃ys a,xs=ys++[a]:=by
 rcases Ig xs with e|⟨ys,a,e⟩
 ·exact absurd e h
 ·exact⟨ys,a,by rw[e,Kq]⟩
theorem fu(rss:List (List Nat))(m:Nat):(b6 rss m).sum=m:=by
 induction m with
 | zero=>rfl
 | succ m ih=>
  rw[b6];split
  ·rename_i h
   obtain⟨m',rfl⟩:∃m',m=m'+1:=⟨m - 1,by lia⟩
   obtain⟨ys,a,e⟩:=lD (ic rss m');rw[e,ib];rw[e]at ih;simp at ih ⊢;lia
  ·simp[ih]
theorem ie(rss:List (List Nat))(m:Nat):(b6 rss m).length<=m:=by
 induction m with
 | zero=>exact DY _
 | succ m ih=>
  rw[b6];split
  ·unfold xK;rw[JW];lia
  ·rw[D8,EV];lia
theorem wu(os:List Nat)(h:i<os.length):iA (NV os) (some ((i:Nat):Int)) (some ((i+2:Nat):Int))=NV ((os.drop i).take 2):=by
 unfold iA;rw[HT.dm,HT.dm,aC,Gd (by lia:i<=os.length)];unfold NV;rw[Gi,GG];by_cases g:i+2<=os.length
 ·rw[Gd g];congr 1;lia
 ·rw[Nat.min_eq_right ⋯,DW (by rw[EO,DT];lia),DW (by rw[EO,DT];lia)]
end L2
namespace L2
open PySem PySem.Spec PyProof.Rows PySem.W
section
variable{N:Nat}{lt:Nat->Nat->Bool}
structure Pm (N:Nat) (p:Array Nat):Prop where
 sz:p.size=N
 bd:∀i,i<N->p.getD i 0<N
 inj:∀i j,i<N->j<N->p.getD i 0=p.getD j 0->i=j
theorem zk{p:Array Nat}(h:p.Perm (FE (DZ N))):Pm N p:=by
 have hp:p.toList.Perm (DZ N):=by simpa using G5.mp h
 have hs:p.size=N:=by rw[<-E8,hp.length_eq,Ff]
 have hn:p.toList.Nodup:=hp.nodup_iff.mpr HU;refine⟨hs,λi hi=>?_,λi j hi hj e=>?_⟩
 ·have hi':i<p.size:=by lia
  have:p[i]∈p.toList:=Kx.mpr (Array.getElem_mem hi');have h2:=hp.mem_iff.mp this;rw[show p.getD i 0=p[i]by simp[Jq,hi']];exact EF.mp h2
 ·have hi':i<p.size:=by lia
  have hj':j<p.size:=by lia
  rw[show p.getD i 0=p[i]by simp[Jq,hi'],show p.getD j 0=p[j]by simp[Jq,hj']]at e;have e':p.toList[i]'(by simpa using hi')=p.toList[j]'(by simpa using hj'):=by simpa using e
  have hq:=EL.mp hn;rcases Fn i j with x|x|x
  ·exact absurd e' (hq i j _ _ x)
  ·exact x
  ·exact absurd e'.symm (hq j i _ _ x)
end
noncomputable abbrev SM:=StateT SortSt Sem
structure Orc where
 prog:Program
 w:World
 A:Around
 E:Value->Shared->Prop
 κ:SortKind
 it:Array Keyed
 N:Nat
 lt:Nat->Nat->Bool
 I:Shared->Prop
 hc:∀i j s,i<N->j<N->I s->kas_cmp prog w A κ it i j (λb s'=>b=lt i j/\I s') s
structure Ab where
 p:Array Nat
 pd:Array (Nat×Nat×Nat)
 mg:Nat
noncomputable def Ab.st(O:Orc)(b:Ab):SortSt:=F7 O.κ (b.p.map (kas_item O.it)) b.pd b.mg none
def W(O:Orc){α:Type}(m:SM α)(Q:α->Ab->Prop)(b:Ab):Prop:=
 ∀s,O.I s->kasC (model O.prog O.w) O.A O.E m (λa st s'=>O.I s'/\∃b':Ab,st=b'.st O/\Q a b') (b.st O) s
section
variable{O:Orc}{α β:Type}{b:Ab}
theorem W.pure{a:α}{Q:α->Ab->Prop}(h:Q a b):W O (NS a) Q b:=λs hs=>kasC_pure ⟨hs,b,rfl,h⟩
theorem W.bind{m:SM α}{f:α->SM β}{Q:β->Ab->Prop}(h:W O m (λa b'=>W O (f a) Q b') b):W O (m >>= f) Q b:=λs hs=>
 kasC_bind (OD (h s hs) (λr s' ⟨i,b',e,q⟩=>by rw[e];exact q s' i) λ_ _ z=>z)
theorem W.mono{m:SM α}{Q Q':α->Ab->Prop}(h:W O m Q b)(k:∀a b',Q a b'->Q' a b'):W O m Q' b:=λs hs=>
 OD (h s hs) (λr s' ⟨i,b',e,q⟩=>⟨i,b',e,k _ _ q⟩) λ_ _ z=>z
theorem W.ite{c:Prop}[Decidable c]{m m':SM α}{Q:α->Ab->Prop}(h:c->W O m Q b)(h':¬c->W O m' Q b):W O (if c then m else m') Q b:=by
 by_cases q:c
 ·rw[if_pos q];exact h q
 ·rw[if_neg q];exact h' q
theorem W.get{Q:SortSt->Ab->Prop}(h:Q (b.st O) b):W O (Mp:SM SortSt) Q b:=λs hs=>kasC_get ⟨hs,b,rfl,h⟩
theorem W.modify{f:SortSt->SortSt}{Q:PUnit->Ab->Prop}(b':Ab)(e:f (b.st O)=b'.st O)(h:Q ⟨⟩ b'):W O (_root_.modify f:SM PUnit) Q b:=λs hs=>kasC_modify ⟨hs,b',e,h⟩
theorem W.rule{r:String}{Q:Unit->Ab->Prop}(h:Q () b):W O (liftM (PySem.rule r):SM Unit) Q b:=λs hs=>kasC_lift (O1 ⟨hs,b,rfl,h⟩)
theorem W.lt{Q:Option Bool->Ab->Prop}(hi:i<O.N)(hj:j<O.N)(h:Q (some (O.lt i j)) b):W O (lt' (kas_item O.it i) (kas_item O.it j)) Q b:=λs hs=>by
 rw[lt'_eq];refine kasC_bind (kasC_get ?_);refine kasC_bind (kasC_lift (wpAny_attempt (OD (O.hc i j s hi hj hs) (λc s' hc=>?_) λ_ _ hF=>hF.elim)));obtain⟨rfl,hs'⟩:=hc;exact kasC_pure ⟨hs',b,rfl,h⟩
theorem zm{xs:Array Nat}{k:Nat}(h:k<xs.size)(f:Nat->Keyed):(xs.map f)[k]? = some (f (xs.getD k 0)):=by
 have e:xs.getD k 0=xs[k]:=by simp[Jq,h]
 rw[e];simp[h]
theorem W.elem{xs:Array Nat}{k:Nat}{Q:Keyed->Ab->Prop}(hk:k<xs.size)(h:Q (kas_item O.it (xs.getD k 0)) b):W O (elem' (xs.map (kas_item O.it)) k) Q b:=by
 rw[elem'_eq,zm hk];exact W.pure h
theorem W.ltAt{Q:Option Bool->Ab->Prop}(hi:i<b.p.size)(hj:j<b.p.size)(hN:∀k,k<b.p.size->b.p.getD k 0<O.N)(h:Q (some (O.lt (b.p.getD i 0) (b.p.getD j 0))) b):W O (ltAt' i j) Q b:=by
 rw[ltAt'_eq];refine W.bind (W.get ?_);exact W.bind (W.elem hi (W.bind (W.elem hj (W.lt (hN i hi) (hN j hj) h))))
theorem W.forIn{γ:Type}{l:List Nat}{c:γ}{f:Nat->γ->SM (ForInStep γ)}{D:γ->Ab->Prop}(J:Nat->γ->Ab->Prop)(h0:J l.length c b)
  (hs:∀x k c b,J (k+1) c b->W O (f x c) (λr b'=>match r with | .done c'=>D c' b' | .yield c'=>J k c' b') b) (hd:∀c b,J 0 c b->D c b):W O (Kg l c f) D b:=by
 induction l generalizing c b with
 | nil=>exact λs hi=>kasC_nil ⟨hi,b,rfl,hd c b h0⟩
 | cons x l ih=>
  intro s hi;refine kasC_cons (OD (hs x l.length c b h0 s hi) (λr s' ⟨i,b',e,q⟩=>?_) λ_ _ z=>z);obtain⟨r,st⟩:=r;have e:st=b'.st O:=e;subst e;cases r with
  | done c'=>exact⟨i,b',rfl,q⟩
  | yield c'=>exact ih q s' i
theorem W.range{γ:Type}{x y:Nat}{c:γ}{f:Nat->γ->SM (ForInStep γ)}{D:γ->Ab->Prop}(J:Nat->γ->Ab->Prop)(h0:J (y - x) c b)
  (hs:∀x k c b,J (k+1) c b->W O (f x c) (λr b'=>match r with | .done c'=>D c' b' | .yield c'=>J k c' b') b) (hd:∀c b,J 0 c b->D c b):W O (Kg [x:y] c f) D b:=λs hi=>
 kasC_range (W.forIn (l:=FV x (y - x)) J (by rw[Lc];exact h0) hs hd s hi)
end
noncomputable def gal:Bool->Keyed->Array Keyed->Nat->Nat->Nat->SM (Option Nat):=sortPriv% PySem.Builtin.gallop
noncomputable def byd(lf:Bool)(ky:Keyed)(ar:Array Keyed)(bs i:Nat):SM (Option Bool):=do
 let z <-elem' ar (bs+i)
 if lf then lt' z ky else return (<-lt' ky z).map (!·)
theorem zo(lf:Bool)(ky:Keyed)(ar:Array Keyed)(bs m hn:Nat):gal lf ky ar bs m hn=(do
 let mut lo1:=0
 let mut of1:=1
 let mut a1:=0
 let mut b1:=0
 let some rt <-byd lf ky ar bs hn|return none
 if rt then
  let mx:=m - hn
  for _ in[0:m]do
   if of1>=mx then break
   let some mo <-byd lf ky ar bs (hn+of1)|return none
   if !mo then break
   lo1:=of1
   of1:=2*of1+1
  a1:=hn+lo1+1
  b1:=hn+min of1 mx
 else
  let mx:=hn+1
  for _ in[0:m]do
   if of1>=mx then break
   let some fd <-byd lf ky ar bs (hn - of1)|return none
   if fd then break
   lo1:=of1
   of1:=2*of1+1
  a1:=hn+1 - min of1 mx
  b1:=hn - lo1
 for _ in[0:m]do
  if a1>=b1 then break
  let md:=a1+(b1 - a1) / 2
  let some mo <-byd lf ky ar bs md|return none
  if mo then a1:=md+1 else b1:=md
 return some b1):=rfl
section
variable{O:Orc}{b:Ab}
noncomputable def bey(O:Orc)(lf:Bool)(k:Nat)(xs:Array Nat)(bs i:Nat):Bool:=if lf then O.lt (xs.getD (bs+i) 0) k else !(O.lt k (xs.getD (bs+i) 0))
theorem W.byd{lf:Bool}{k:Nat}{xs:Array Nat}{bs i:Nat}{Q:Option Bool->Ab->Prop}(hk:k<O.N)(hx:∀j,j<xs.size->xs.getD j 0<O.N)(hi:bs+i<xs.size)(h:Q (some (bey O lf k xs bs i)) b):
  W O (byd lf (kas_item O.it k) (xs.map (kas_item O.it)) bs i) Q b:=by
 unfold L2.byd;refine W.bind (W.elem hi ?_);unfold bey at h;cases lf with
 | true=>
  rw[if_pos rfl]at h ⊢;exact W.lt (hx _ hi) hk h
 | false=>
  rw[if_neg Ei]at h ⊢;exact W.bind (W.lt hk (hx _ hi) (W.pure h))
end
noncomputable def setMG:Nat->SM Unit:=sortPriv% PySem.Builtin.setMinGallop
noncomputable def mLo:Array Keyed->Array Keyed->SM (Array Keyed):=sortPriv% PySem.Builtin.mergeLo
theorem sY(g:Nat):setMG g=_root_.modify λst=>F7 (kindOf st) (arrOf st) (pendingOf st) g (failedOf st):=rfl
theorem zq(a b:Array Keyed):mLo a b=(do
 rule "list.sort.merge-lo"
 let tt:=a.size+b.size
 let dn (o:Array Keyed) (i j:Nat):=o++a.extract i a.size++b.extract j b.size
 let la (o:Array Keyed) (i j:Nat):=o++b.extract j b.size++a.extract i a.size
 let mut o:Array Keyed:=#[<-elem' b 0]
 let mut i:=0
 let mut j:=1
 if j == b.size then return dn o i j
 if i+1 == a.size then return la o i j
 let mut mg:=gallopOf (<-get)
 for _ in[0:tt]do
  let mut ca:=0
  let mut cb:=0
  for _ in[0:tt]do
   let some bw <-lt' (<-elem' b j) (<-elem' a i)|return dn o i j
   if bw then
    o:=o.push (<-elem' b j);j:=j+1;cb:=cb+1;ca:=0
    if j == b.size then return dn o i j
    if cb>=mg then break
   else
    o:=o.push (<-elem' a i);i:=i+1;ca:=ca+1;cb:=0
    if i+1 == a.size then return la o i j
    if ca>=mg then break
  rule "list.sort.gallop"
  mg:=mg+1
  for _ in[0:tt]do
   if mg > 1 then mg:=mg - 1
   setMG mg
   let some k <-gal false (<-elem' b j) a i (a.size - i) 0|return dn o i j
   ca:=k
   if k > 0 then
    o:=o++a.extract i (i+k);i:=i+k
    if i+1 == a.size then return la o i j
    if i == a.size then return dn o i j
   o:=o.push (<-elem' b j);j:=j+1
   if j == b.size then return dn o i j
   let some k <-gal true (<-elem' a i) b j (b.size - j) 0|return dn o i j
   cb:=k
   if k > 0 then
    o:=o++b.extract j (j+k);j:=j+k
    if j == b.size then return dn o i j
   o:=o.push (<-elem' a i);i:=i+1
   if i+1 == a.size then return la o i j
   if ca<7 && cb<7 then break
  mg:=mg+1
  setMG mg
 unsupported "internal:list.sort.merge-bound"):=rfl
section
variable{O:Orc}{b:Ab}
theorem W.setMG{g:Nat}{Q:Unit->Ab->Prop}(h:Q () { b with mg:=g }):W O (setMG g) Q b:=by
 rw[sY];exact W.modify { b with mg:=g } rfl h
theorem wx{xs:Array Nat}(h:i<xs.size):xs.toList.drop i=xs.getD i 0::xs.toList.drop (i+1):=by
 have h':i<xs.toList.length:=by simpa using h
 rw[Gq h'];congr 1;simp[Jq,h]
variable{xs ys os:Array Nat}{i j k:Nat}
theorem jF(xs:Array Nat)(i:Nat):(xs.extract i xs.size).toList=xs.toList.drop i:=by
 rw[GZ,Gr];exact DW (by simp)
theorem W.itb{α:Type}{m m':SM α}{x y:Nat}{Q:α->Ab->Prop}(h:x=y->W O m Q b)(h':¬x=y->W O m' Q b):W O (if(x == y)=true then m else m') Q b:=W.ite (λq=>h (by simpa using q)) λq=>h' (by simpa using q)
theorem kmp{z:Array Keyed}(os:Array Nat)(x:Nat):(os.map (kas_item z)).push (kas_item z x)=(os.push x).map (kas_item z):=by rw[Array.map_push]
theorem kma{z:Array Keyed}(os zs:Array Nat):os.map (kas_item z)++zs.map (kas_item z)=(os++zs).map (kas_item z):=by rw[Array.map_append]
theorem kme{z:Array Keyed}(zs:Array Nat)(i j:Nat):(zs.map (kas_item z)).extract i j=(zs.extract i j).map (kas_item z):=by rw[Array.map_extract]
theorem kmr{z:Array Keyed}(zs:Array Nat):(zs.map (kas_item z)).reverse=zs.reverse.map (kas_item z):=by rw[Array.map_reverse]
theorem km1{z:Array Keyed}(x:Nat):#[kas_item z x]=((#[]:Array Nat).push x).map (kas_item z):=by simp
end
noncomputable def mHi:Array Keyed->Array Keyed->SM (Array Keyed):=sortPriv% PySem.Builtin.mergeHi
theorem zr(a b:Array Keyed):mHi a b=(do
 rule "list.sort.merge-hi"
 let tt:=a.size+b.size
 let dn (o:Array Keyed) (i j:Nat):=a.extract 0 i++b.extract 0 j++o.reverse
 let fb (o:Array Keyed) (i j:Nat):=b.extract 0 j++a.extract 0 i++o.reverse
 let mut i:=a.size - 1
 let mut j:=b.size
 let mut o:Array Keyed:=#[<-elem' a i]
 if i == 0 then return dn o i j
 if j == 1 then return fb o i j
 let mut mg:=gallopOf (<-get)
 for _ in[0:tt]do
  let mut ca:=0
  let mut cb:=0
  for _ in[0:tt]do
   let some aw <-lt' (<-elem' b (j - 1)) (<-elem' a (i - 1))|return dn o i j
   if aw then
    i:=i - 1;o:=o.push (<-elem' a i);ca:=ca+1;cb:=0
    if i == 0 then return dn o i j
    if ca>=mg then break
   else
    j:=j - 1;o:=o.push (<-elem' b j);cb:=cb+1;ca:=0
    if j == 1 then return fb o i j
    if cb>=mg then break
  rule "list.sort.gallop"
  mg:=mg+1
  for _ in[0:tt]do
   if mg > 1 then mg:=mg - 1
   setMG mg
   let some q <-gal false (<-elem' b (j - 1)) a 0 i (i - 1)|return dn o i j
   let k:=i - q
   ca:=k
   if k > 0 then
    o:=o++(a.extract q i).reverse;i:=q
    if i == 0 then return dn o i j
   j:=j - 1;o:=o.push (<-elem' b j)
   if j == 1 then return fb o i j
   let some q <-gal true (<-elem' a (i - 1)) b 0 j (j - 1)|return dn o i j
   let k:=j - q
   cb:=k
   if k > 0 then
    o:=o++(b.extract q j).reverse;j:=q
    if j == 1 then return fb o i j
    if j == 0 then return dn o i j
   i:=i - 1;o:=o.push (<-elem' a i)
   if i == 0 then return dn o i j
   if ca<7 && cb<7 then break
  mg:=mg+1
  setMG mg
 unsupported "internal:list.sort.merge-bound"):=rfl
section
variable{O:Orc}{b:Ab}{xs ys os:Array Nat}{i j k:Nat}
theorem AD(xs:Array Nat)(i:Nat):(xs.extract 0 i).toList=xs.toList.take i:=by
 rw[GZ,Gr];simp
end
theorem zt(n:Nat):mergeAt' n=(do
 let st <-get
 let(some (u,nu,pw),some (v,nv,_)):=((pendingOf st)[n]?,(pendingOf st)[n+1]?) | unsupported "internal:list.sort.pending"
 set (setPending st (((pendingOf st).setIfInBounds n (u,nu+nv,pw)).eraseIdxIfInBounds (n+1)))
 let some k <-gal false (<-elem' (arrOf st) v) (arrOf st) u nu 0|return false
 let(u,nu):=(u+k,nu - k)
 if nu == 0 then return true
 let some nv <-gal true (<-elem' (arrOf st) (u+nu - 1)) (arrOf st) v nv (nv - 1)|return false
 if nv == 0 then return true
 let X:=(arrOf st).extract u v
 let Y:=(arrOf st).extract v (v+nv)
 let R <-if nu<=nv then mLo X Y else mHi X Y
 modify λst=>setArr st (R.toList.zipIdx.foldl (λz (q,j)=>z.setIfInBounds (u+j) q) (arrOf st))
 return (failedOf (<-get)).isNone):=rfl
theorem mS{α:Type}:∀(l:List α) (k s:Nat) (z:Array α),s+k+l.length<=z.size->
  ((l.zipIdx k).foldl (λz x=>z.setIfInBounds (s+x.2) x.1) z).toList=z.toList.take (s+k)++l++z.toList.drop (s+k+l.length)
 | [],k,s,z,h=>by simp
 | x::l,k,s,z,h=>by
  rw[JD,L0];have ih:=mS l (k+1) s (z.setIfInBounds (s+k) x) (by rw[Array.size_setIfInBounds];simp at h;lia);rw[ih];have hz:s+k<z.toList.length:=by simp at h ⊢;lia
  rw[Array.toList_setIfInBounds];have e1:(z.toList.set (s+k) x).take (s+(k+1))=z.toList.take (s+k)++[x]:=by
   rw[show s+(k+1)=s+k+1 by lia,List.take_succ_eq_append_getElem (by simpa using hz)];rw[List.getElem_set_self,List.take_set_of_le (DY _)]
  have e2:(z.toList.set (s+k) x).drop (s+(k+1)+l.length)=z.toList.drop (s+(k+1)+l.length):=by
   rw[List.drop_set,if_pos ⋯]
  rw[e1,e2];simp only[EA,HY,Gc,Ej];rw[show s+(k+1)+l.length=s+k+(l.length+1)by lia]
section
variable{O:Orc}{b:Ab}
theorem W.set{st:SortSt}{Q:PUnit->Ab->Prop}(b':Ab)(e:st=b'.st O)(h:Q ⟨⟩ b'):W O (N3 st:SM PUnit) Q b:=λs hs=>by
 unfold kasC;show wpAny _ _ ((StateT.set st:SM PUnit).run (b.st O)) _ _ s
 exact Ow ⟨hs,b',e,h⟩
end
section
variable{O:Orc}{b:Ab}{lo n nrem:Nat}{pre:List Nat}{pd:Array (Nat×Nat×Nat)}{mg:Nat}{P:Array Nat}
theorem W.rangeV{γ:Type}{x y:Nat}{c:γ}{f:Nat->γ->SM (ForInStep γ)}{D:γ->Ab->Prop}(J:Nat->γ->Ab->Prop)(hxy:x<=y)(h0:J x c b)
  (hs:∀k c b,x<=k->k<y->J k c b->W O (f k c) (λr b'=>match r with | .done c'=>D c' b' | .yield c'=>J (k+1) c' b') b) (hd:∀c b,J y c b->D c b):W O (Kg [x:y] c f) D b:=λs hi=>by
 refine kasC_range ?_;have go:∀(m k:Nat) (c:γ) (b:Ab),x<=k->k+m=y->J k c b->W O (Kg (FV k m) c f) D b:=by
  intro m
  induction m with
  | zero=>
   intro k c b _ e h s hi;have:k=y:=by lia
   subst this;exact kasC_nil ⟨hi,b,rfl,hd c b h⟩
  | succ m ih=>
   intro k c b hk e h s hi;rw[List.range'_succ];refine kasC_cons (OD (hs k c b hk ⋯ h s hi) (λr s' ⟨i,b',e',q⟩=>?_) λ_ _ z=>z);obtain⟨r,st⟩:=r;have e':st=b'.st O:=e';subst e';cases r with
   | done c'=>exact⟨i,b',rfl,q⟩
   | yield c'=>exact ih (k+1) c' b' ⋯ ⋯ q s' i
 exact go (y - x) x c b (DY _) ⋯ h0 s hi
end
section
variable{O:Orc}{b:Ab}{lo n nrem:Nat}{pre:List Nat}{pd:Array (Nat×Nat×Nat)}{mg:Nat}{P:Array Nat}
end
end L2
open L2.W renaming pure→Om,bind→On,ite→Oo,elem→Oq,range→Os,itb→Ot
namespace HT
open PySem PyProof.Rows PySem.W L2
section
variable{prog:Program}{w:World}{A:Around}{E:Value->Shared->Prop}{s:Shared}
theorem mT{fin:Bool}{Q:Bool->Shared->Prop}:∀{xs ys:List Value}{ns ms:List Int},OI xs ns->OI ys ms->∀(i:Nat) (b:Bool),fin=decide (ns.length<ms.length)->Q (cM ns ms) s->
  KatLex prog w A b fin Q (xs.zip ys) i s
 | _,_,_,_,.nil,.nil,i,b,e,h=>by subst e;exact h
 | _,_,_,_,.nil,.cons m u r,i,b,e,h=>by
  subst e;rw[Ji];refine kat_nil ?_;simpa using(show Q true s from h)
 | _,_,_,_,.cons n t r,.nil,i,b,e,h=>by
  subst e;rw[IL];refine kat_nil ?_;simpa using(show Q false s from h)
 | _,_,_,_,.cons n t r,.cons m u r',i,b,e,h=>by
  rw[FN];refine kat_cons (wpAny_eqBool_int ?_);rw[ck]at h;by_cases hn:n=m
  ·rw[if_pos hn]at h
   rw[show(n == m)=true by simp[hn]];exact kat_yes (mT r r' (i+1) b (by rw[e];simp) h)
  ·rw[if_neg hn]at h
   rw[show(n == m)=false by simp[hn]];refine kat_no ?_;cases(b && i == 0)with
   | true=>exact oneLt_int h
   | false=>exact kat_one _ _ (lt_int h)
end
end HT
namespace L2
open PySem PySem.Spec PyProof.Rows PySem.W
section
variable{X:Cx}
theorem mU{f:Nat->V}{g:Nat->Value}:∀{p:List Nat},(∀i∈p,RelV (f i) (g i))->Vals (p.map f) (p.map g)
 | [],_=>.nil
 | i::p,h=>.cons (h i (.head _)) (mU λj hj=>h j (.tail _ hj))
end
section
variable{X:Cx}
end
end L2
namespace HT
open PySem PyProof.Rows PySem.W L2
section
variable{prog:Program}{w:World}{A:Around}{E:Value->Shared->Prop}{s:Shared}
end
theorem wz{vs:List Value}{ns:List Int}(h:OI vs ns):∀{i:Nat},i<vs.length->∃t,vs.getD i EN=.int (ns.getD i 0) t:=by
 induction h with
 | nil=>intro i hi;cases hi
 | cons n t h ih=>
  intro i hi;cases i with
  | zero=>exact⟨t,rfl⟩
  | succ i=>
   obtain⟨t',e⟩:=ih (i:=i) (by simpa using hi);exact⟨t',by simpa using e⟩
end HT
namespace L2
open PySem PySem.Spec PyProof.Rows PySem.W
theorem jG{α:Type}(xs:List α)(d:α):(DZ xs.length).map (λi=>xs.getD i d)=xs:=by
 apply GX
 ·simp
 ·intro i h1 h2
  simp[h2]
section
variable{X:Cx}
end
end L2
namespace L2
open PySem PySem.Spec PyProof.Rows
section
variable{X:Cx}{pins:List (Addr×Obj)}{σ:St}{H:Hp}{s:Shared}
end
section
variable{κ:Type}[DecidableEq κ]
noncomputable def jH(kvs:List (κ×V))(k:κ):Option V:=(kvs.find? λkv=>decide (kv.1=k)).map (·.2)
noncomputable def jI(kvs:List (κ×V))(k:κ)(v:V):List (κ×V):=
 if(kvs.any λkv=>decide (kv.1=k))=true then kvs.map (λkv=>if kv.1=k then(kv.1,v)else kv)else kvs++[(k,v)]
theorem gC{p:κ×V}{r:List (κ×V)}{k:κ}(e:p.1=k):jH (p::r) k=some p.2:=by simp[jH,Gg,e]
theorem fw{p:κ×V}{r:List (κ×V)}{k:κ}(e:¬p.1=k):jH (p::r) k=jH r k:=by simp[jH,Gg,e]
theorem gD(k:κ):∀kvs:List (κ×V),(kvs.any λkv=>decide (kv.1=k))=(jH kvs k).isSome
 | []=>rfl
 | p::r=>by
  rw[KM];by_cases e:p.1=k
  ·simp only[gC e,decide_eq_true e,Jy,Option.isSome_some]
  ·rw[fw e,decide_eq_false e,HK];exact gD k r
theorem eO(kvs:List (κ×V))(k:κ)(v:V):(jI kvs k v).length<=kvs.length+1:=by
 unfold jI;split
 ·rw[DT];lia
 ·rw[D8,Ej,E2];lia
theorem sZ{kvs:List (κ×V)}{k:κ}(v:V)(h:jH kvs k=none):jI kvs k v=kvs++[(k,v)]:=by
 unfold jI;rw[gD,h];exact if_neg (by decide)
theorem RelO.isSome_eq{o:Option V}{u:Option Value}(r:RelO o u):o.isSome=u.isSome:=by
 cases o with
 | none=>cases u with
  | none=>rfl
  | some _=>exact(show False from r).elim
 | some _=>cases u with
  | none=>exact(show False from r).elim
  | some _=>rfl
theorem RelO.getD{o:Option V}{u:Option Value}{d:V}{d':Value}(r:RelO o u)(rd:RelV d d'):RelV (o.getD d) (u.getD d'):=by
 cases o with
 | none=>cases u with
  | none=>exact rd
  | some _=>exact(show False from r).elim
 | some _=>cases u with
  | none=>exact(show False from r).elim
  | some _=>exact r
theorem KV.val{kvs:List (κ×V)}{vs:List (κ×Value)}(r:KV kvs vs)(k:κ):RelO (jH kvs k) (valueAt vs k):=by
 unfold KV at r
 induction r with
 | nil=>exact D3
 | @cons p q ps qs h t ih=>
  obtain⟨h1,h2⟩:=h;by_cases e:p.1=k
  ·have e':q.1=k:=h1.symm.trans e
   have b:valueAt (q::qs) k=some q.2:=by simp[valueAt,Gg,e']
   rw[gC e,b];exact h2
  ·have e':¬q.1=k:=λz=>e (h1.trans z)
   have b:valueAt (q::qs) k=valueAt qs k:=by simp[valueAt,Gg,e']
   rw[fw e,b];exact ih
theorem KV.any{kvs:List (κ×V)}{vs:List (κ×Value)}(r:KV kvs vs)(k:κ):(kvs.any λkv=>decide (kv.1=k))=vs.any λkv=>decide (kv.1=k):=by
 unfold KV at r
 induction r with
 | nil=>rfl
 | cons h t ih=>rw[KM,KM,ih,h.1]
theorem KV.repl{kvs:List (κ×V)}{vs:List (κ×Value)}(r:KV kvs vs)(k:κ)(ry:RelV y u):
  KV (kvs.map λkv=>if kv.1=k then(kv.1,y)else kv) (vs.map λkv=>if kv.1=k then(kv.1,u)else kv):=by
 unfold KV at r ⊢
 induction r with
 | nil=>exact .nil
 | @cons p q ps qs h t ih=>
  rw[Ez,Ez];refine .cons ?_ ih;obtain⟨h1,h2⟩:=h;by_cases e:p.1=k
  ·rw[if_pos e,if_pos (h1.symm.trans e)];exact⟨h1,ry⟩
  ·rw[if_neg e,if_neg (λz=>e (h1.trans z))];exact⟨h1,h2⟩
theorem KV.put{kvs:List (κ×V)}{vs:List (κ×Value)}(r:KV kvs vs)(k:κ)(ry:RelV y u):KV (jI kvs k y) (stored vs k u):=by
 unfold jI stored;rw[r.any k];by_cases e:(vs.any λkv=>decide (kv.1=k))=true
 ·rw[if_pos e,if_pos e];exact r.repl k ry
 ·rw[if_neg e,if_neg e];exact Nz r ⟨rfl,ry⟩
theorem KV.length{kvs:List (κ×V)}{vs:List (κ×Value)}(r:KV kvs vs):kvs.length=vs.length:=IY r
end
theorem qm{w:World}{k:Key}(r:RelV (kV k) u):(bp P w).is k u=true:=by
 cases k with
 | inl i=>obtain⟨t,e⟩:=(show ∃t,u=Hh i t from r);subst e;exact kW P w i t
 | inr x=>obtain⟨t,e⟩:=(show ∃t,u=IJ x t from r);subst e;exact kX P w x t
theorem kx{P:Program}{w:World}:∀{ks:List Key}{us:List Value},Vals (ks.map kV) us->ItemsAre (bp P w) ks us
 | [],_,r=>by rw[Ik]at r;cases r;exact .nil
 | k::ks,_,r=>by
  rw[Ez]at r;cases r with
  | cons h t=>exact .cons (qm h) (kx t)
abbrev KT(H:Hp):List (List Key×V)->List (List Key×Addr×Value)->Prop:=Paired λp q=>p.1=q.1/\H q.2.1=some (.tup (p.1.map kV))/\RelV p.2 q.2.2
theorem KT.val{H:Hp}{kvs:List (List Key×V)}{xs:List (List Key×Addr×Value)}(r:KT H kvs xs)(k:List Key):RelO (jH kvs k) ((atKey xs k).map (·.2)):=by
 induction r with
 | nil=>exact D3
 | @cons p q ps qs h t ih=>
  obtain⟨h1,_,h2⟩:=h;by_cases e:p.1=k
  ·have e':q.1=k:=h1.symm.trans e
   have b:atKey (q::qs) k=some q.2:=by simp[atKey,Gg,e']
   rw[gC e,b];exact h2
  ·have e':¬q.1=k:=λz=>e (h1.trans z)
   have b:atKey (q::qs) k=atKey qs k:=by simp[atKey,Gg,e']
   rw[fw e,b];exact ih
theorem KT.repl{H:Hp}{kvs:List (List Key×V)}{xs:List (List Key×Addr×Value)}(r:KT H kvs xs)(k:List Key)(ry:RelV y u):
  KT H (kvs.map λkv=>if kv.1=k then(kv.1,y)else kv) (xs.map (putAt k u)):=by
 induction r with
 | nil=>exact .nil
 | @cons p q ps qs h t ih=>
  rw[Ez,Ez];refine .cons ?_ ih;obtain⟨h1,h2,h3⟩:=h;unfold putAt;by_cases e:p.1=k
  ·rw[if_pos e,if_pos (h1.symm.trans e)];exact⟨h1,h2,ry⟩
  ·rw[if_neg e,if_neg (λz=>e (h1.trans z))];exact⟨h1,h2,h3⟩
theorem KT.put{H:Hp}{kvs:List (List Key×V)}{xs:List (List Key×Addr×Value)}(r:KT H kvs xs)(k:List Key){b:Addr}(hb:H b=some (.tup (k.map kV)))(ry:RelV y u):
  KT H (jI kvs k y) (storedH xs k b u):=by
 have e:(kvs.any λkv=>decide (kv.1=k))=(atKey xs k).isSome:=by
  rw[gD,(r.val k).isSome_eq,Option.isSome_map]
 unfold jI storedH;rw[e];by_cases q:(atKey xs k).isSome=true
 ·rw[if_pos q,if_pos q];exact r.repl k ry
 ·rw[if_neg q,if_neg q];exact Nz r ⟨rfl,hb,ry⟩
theorem KT.keeps{H:Hp}{kvs:List (List Key×V)}{xs:List (List Key×Addr×Value)}(r:KT H kvs xs)(ht:∀b ys,H b=some (.tup ys)->H' b=some (.tup ys)):KT H' kvs xs:=
 Paired.mapP r λ_ _ z=>⟨z.1,ht _ _ z.2.1,z.2.2⟩
section
variable{P:Program}{w:World}{H:Hp}{h:Heap}{a:Addr}
theorem zu{u:HO}(ok:HOk P w H h)(e:Rd H a u):ObjOk P w H h a u:=e.ok ok
theorem qo{kvs:List (Key×V)}(ok:HOk P w H h)(e:Rd H a (.dK kvs)):kvs.length<=Ox/\(a == OS)=false/\∃vs,KV kvs vs/\h.DictOf (bp P w) a vs:=
 show ObjOk P w H h a (.dK kvs)from zu ok e
theorem BY{kvs:List (Key×V)}(ok:HOk P w H h)(e:H a=some (.dK kvs)):kvs.length<=Ox/\(a == OS)=false/\∃vs,KV kvs vs/\h.DictOf (bp P w) a vs:=qo ok (.inl e)
theorem mV{ks:List Key}(ok:HOk P w H h)(e:H a=some (.tup (ks.map kV))):(tupleKind (bp P w)).is h ks a:=by
 obtain⟨_,its,r,o,h1,h2,n,h3⟩:=(show ObjOk P w H h a (.tup (ks.map kV))from ok a _ e);exact⟨o,its.toArray,n,h1,h2,h3,by simpa using kx r⟩
theorem qp{kvs:List (List Key×V)}(ok:HOk P w H h)(e:Rd H a (.dT kvs)):kvs.length<=Ox/\(a == OS)=false/\
  ∃xs,KT H kvs xs/\h.DictOfH (tupleKind (bp P w)) a xs:=by
 obtain⟨z,y,xs,r,o,es,ep,h1,h2,h3,h4,h5⟩:=(show ObjOk P w H h a (.dT kvs)from zu ok e);refine⟨z,y,xs,r,o,es,ep,h1,h2,h3,h4,λx hx=>?_,h5⟩;have all:∀{l:List (List Key×V)}{m:List (List Key×Addr×Value)},KT H l m->∀x∈m,(tupleKind (bp P w)).is h x.1 x.2.1:=by
  intro l m q
  induction q with
  | nil=>intro x hx;exact nomatch hx
  | @cons p q ps qs hq t ih=>
   intro x hx;rcases Eb.mp hx with e|hx
   ·subst e
    exact mV ok (by rw[<-hq.1];exact hq.2.1)
   ·exact ih x hx
 exact all r x hx
theorem BZ{kvs:List (List Key×V)}(ok:HOk P w H h)(e:H a=some (.dT kvs)):kvs.length<=Ox/\(a == OS)=false/\
  ∃xs,KT H kvs xs/\h.DictOfH (tupleKind (bp P w)) a xs:=qp ok (.inl e)
end
def DGet(H:Hp)(a:Addr)(y:V)(r:Option V):Prop:=
 (∃kvs k,Rd H a (.dK kvs)/\y=kV k/\r=jH kvs k)\/∃kvs k b,Rd H a (.dT kvs)/\y=.ref b/\H b=some (.tup (k.map kV))/\r=jH kvs k
def DPut(H:Hp)(a:Addr)(y v:V)(H':Hp):Prop:=
 (∃kvs k,H a=some (.dK kvs)/\y=kV k/\kvs.length<Ox/\H'=upd H a (.dK (jI kvs k v)))\/
 ∃kvs k b,H a=some (.dT kvs)/\y=.ref b/\H b=some (.tup (k.map kV))/\kvs.length<Ox/\H'=upd H a (.dT (jI kvs k v))
theorem DGet.k{H:Hp}{kvs:List (Key×V)}{k:Key}(e:H a=some (.dK kvs)):DGet H a (kV k) (jH kvs k):=.inl ⟨kvs,k,.inl e,rfl,rfl⟩
theorem DGet.t{H:Hp}{b:Addr}{kvs:List (List Key×V)}{k:List Key}(e:H a=some (.dT kvs))(eb:H b=some (.tup (k.map kV))):DGet H a (.ref b) (jH kvs k):=.inr ⟨kvs,k,b,.inl e,rfl,eb,rfl⟩
theorem DPut.t{H:Hp}{b:Addr}{kvs:List (List Key×V)}{k:List Key}(e:H a=some (.dT kvs))(eb:H b=some (.tup (k.map kV)))(hl:kvs.length<Ox):
  DPut H a (.ref b) v (upd H a (.dT (jI kvs k v))):=.inr ⟨kvs,k,b,e,rfl,eb,hl,rfl⟩
section
variable{X:Cx}{pins:List (Addr×Obj)}{σ:St}{H:Hp}{s:Shared}{a:Addr}{y v:V}{u r:Value}{o:Option V}{A:Around}{E:Value->Shared->Prop}
theorem Inv.big(I:Inv X pins σ H s):OS<s.heap.objs.size:=by
 have h:mainGlobals<s.heap.objs.size:=(I.mod.glob.keeps I.bk).lt;exact Ir (by decide) h
theorem qq(hu:A.units+1<cLine)(I:Inv X pins σ H s)(g:DGet H a y (some v))(ry:RelV y u)(h:∀w' s',Inv X pins σ H s'->RelV v w'->Q w' s'):
  wpAny (model X.prog X.w) A (getItem (.ref a) u) Q E s:=by
 rcases g with⟨kvs,k,e,ey,l⟩|⟨kvs,k,b,e,ey,eb,l⟩
 ·subst ey
  obtain⟨z,hd,vs,rel,dd⟩:=qo I.hok e;obtain⟨w',hw,rw'⟩:=RelO.some_of (v:=v) (o:=valueAt vs k) (by rw[l];exact rel.val k);exact wpAny_getItem_of (qm ry) dd.mapOf hw (h w' _ (I.tok _) rw')
 ·subst ey
  cases(show u=Ep b from ry);obtain⟨z,hd,xs,rel,dd⟩:=qp I.hok e;obtain⟨w',hw,rw'⟩:=RelO.some_of (v:=v) (o:=(atKey xs k).map (·.2)) (by rw[l];exact rel.val k);obtain⟨p,hp,hp2⟩:=Fw.mp hw;refine wpAny_getItem_heap (tupleKind_room_in1 hu) (mV I.hok eb) dd hp ?_;rw[hp2];exact h w' _ (I.tok _) rw'
theorem qr{h':Heap}{ob:HO}(I:Inv X pins σ H s)(mu:Mut (H a))(hs:FK a s.heap h')(he:∃q,h'.get? a=some q)(new:ObjOk X.prog X.w (upd H a ob) h' a ob):
  Inv X pins σ (upd H a ob) { s with heap:=h',toks:=t' }:=
 I.write (x:=a) (e:=a) mu (.inl rfl) (λb q hb z=>(hs.2 b hb).trans z) he new
theorem uN{w:World}{h':Heap}{kvs:List (Key×V)}{vs:List (Key×Value)}(z:kvs.length<=Ox)(hd:(a == OS)=false)(rel:KV kvs vs)(dd:h'.DictOf (bp P w) a vs):
  ObjOk P w H' h' a (.dK kvs):=⟨z,hd,vs,rel,dd⟩
theorem qu{Q:Unit->Shared->Prop}(hu:A.units+1<cLine)(I:Inv X pins σ H s)(g:DPut H a y v H')(ry:RelV y u)(rv:RelV v r)(h:∀s',Inv X pins σ H' s'->Q () s'):
  wpAny (model X.prog X.w) A (setItem (.ref a) u r) Q E s:=by
 rcases g with⟨kvs,k,e,ey,l,eH⟩|⟨kvs,k,b,e,ey,eb,l,eH⟩
 ·subst ey eH
  obtain⟨z,hd,vs,rel,dd⟩:=BY I.hok e;have hz:vs.length<=Ox:=by rw[<-rel.length];exact z
  have hl:(jI kvs k v).length<=Ox:=by have:=eO kvs k v;lia
  refine wpAny_setItem_pairs (hsz:=hz) (qm ry) dd λh' dd' hs=>h _ ?_
  have he:∃q,h'.get? a=some q:=let⟨q,_,_,hq,_⟩:=dd';⟨q,hq⟩
  exact qr I (by rw[e];exact D3) hs he (uN hl hd (rel.put k rv) dd')
 ·subst ey eH
  cases(show u=Ep b from ry);obtain⟨z,hd,xs,rel,dd⟩:=BZ I.hok e;have hz:xs.length<=Ox:=by rw[<-IY rel];exact z
  have hl:(jI kvs k v).length<=Ox:=by have:=eO kvs k v;lia
  refine wpAny_setItem_heap (hsz:=hz) (tupleKind_room_in1 hu) (mV I.hok eb) dd λh' dd' hs=>h _ ?_
  obtain⟨q,es,ep,hq,h2,h3,h4,_,h5⟩:=dd';refine qr I (by rw[e];exact D3) hs ⟨q,hq⟩ ⟨hl,hd,_,(rel.put k eb rv).keeps λc ys ec=>?_,q,es,ep,hq,h2,h3,h4,h5⟩;rw[aB (iC ec e (λz=>nomatch z))];exact ec
end
section
variable{X:Cx}{pins:List (Addr×Obj)}{σ:St}{H:Hp}{s:Shared}{a:Addr}{kvs:List (Key×V)}{k:Key}{u:Value}{A:Around}{E:Value->Shared->Prop}
end
def B0(i:Expr):Prop:=∀ov iv,subscripted i false ov iv=operate [ov,iv] (getItem ov iv)
theorem wA{prog:Program}{w:World}{A:Around}{E:Value->Shared->Prop}{s:Shared}{env:Env}{value slice:Expr}{T id:String}
  (hl:typeLookup (.type T) "__getitem__" = pure (some (.builtin id))) (hs:B0 slice)
  (h:wpAny (model prog w) A (eval value env) (λo s₁=>wpAny (model prog w) A (eval slice env) (λi s₂=>s₂.TypeIs o T/\wpAny (model prog w) A (getItem o i) Q E s₂) E s₁) E s) :
  wpAny (model prog w) A (eval (.Subscript value slice pos) env) Q E s:=by
 refine Subscript_ (OD h (λo s₁ h₁=>OD h₁ (λi s₂ h₂=>?_) λ_ _ x=>x) λ_ _ x=>x);obtain⟨hT,h₂⟩:=h₂;unfold subscriptTail;refine Ov ?_;rw[getitemInPython_of_ne hT.not_modules];refine Ov (wpAny_specialOf hT hl ?_);have fin:wpAny (model prog w) A (subscripted slice false o i) (λr s₃=>wpAny (model prog w) A (letTemporaryGo value o r >>= λ_=>pure r) Q E s₃) E s₂:=by
  rw[hs o i];exact wpAny_operating (OD h₂ (λr s₃ h₃=>Ov (wpAny_letTemporaryGo (Ow h₃))) λ_ _ x=>x)
 first
  | exact Ow (Ov fin)
  | exact Ov (Ow (Ov fin))
  | exact Ov fin
theorem lE {H:Hp}{s:Shared}{o:Option V}(I:Inv X pins σ H s) (g:DGet H a y o):s.TypeIs (.ref a) "dict":=by
 rcases g with⟨kvs,k,e,_,_⟩|⟨kvs,k,b,e,_,_,_⟩
 ·obtain⟨_,_,vs,_,dd⟩:=qo I.hok e
  exact dd.typeIs
 ·obtain⟨_,_,xs,_,dd⟩:=qp I.hok e
  exact dd.typeIs
def zw(td ty:TE):TE:=λσ H Q=>td σ H λx H1=>ty σ H1 λy H2=>∃a v,x=.ref a/\DGet H2 a y (some v)/\Q v H2
def wB(td ty tv:TE):TS:=λD σ H=>tv σ H λv H1=>td σ H1 λx H2=>ty σ H2 λy H3=>∃a H4,x=.ref a/\DPut H3 a y v H4/\D.nx σ H4
section
variable{X:Cx}{o i e value:Expr}{pos pos' tpos:Pos}{td ty tv:TE}
theorem wC(hu:X.A.units+1<cLine)(ho:PE X o td)(hi:PE X i ty)(hs:B0 i):PE X (.Subscript o i pos) (zw td ty):=by
 intro pins s σ H Q I h;refine wA PySem.F.slot_dict_getitem.lookup hs (thn (ho pins s σ H _ I h) λu s1 ⟨x,H1,I1,rx,q1⟩=>thn (hi pins s1 σ H1 _ I1 q1) λiv s2 ⟨y,H2,I2,ry,a,v,ex,g,q2⟩=>?_);subst ex;obtain rfl:u=Ep a:=rx;exact⟨lE I2 g,qq hu I2 g ry λw' s3 I3 rw'=>⟨v,H2,I3,rw',q2⟩⟩
theorem wD(hu:X.A.units+1<cLine)(ho:PE X o td)(hi:PE X i ty)(hv:PE X value tv)(hs:OY value (some (.Subscript o i pos')) pos.line X.env=pure false):
  PS X (.Assign [.Subscript o i pos'] value pos) (wB td ty tv):=by
 intro pins s σ H D I h;refine wpAny_Assign_Subscript (thn (hv pins s σ H _ I h) λr s1 ⟨v,H1,I1,rv,q1⟩=>thn (ho pins s1 σ H1 _ I1 q1) λu s2 ⟨x,H2,I2,rx,q2⟩=>thn (hi pins s2 σ H2 _ I2 q2) λiv s3 ⟨y,H3,I3,ry,a,H4,ex,g,q3⟩=>?_) hs;subst ex;obtain rfl:u=Ep a:=rx;exact qu hu I3 g ry rv λs4 I4=>⟨σ,H4,I4,q3⟩
end
theorem tj {w:World}{H:Hp}(h:Heap) (hb:OS<h.objs.size):ObjOk P w H (h.push { cls:=.type "dict",data:=.dict #[] }) h.objs.size (.dT []):=
 ⟨Ec _,beq_eq_false_iff_ne.mpr (E5 (Eh hb)),[],.nil,_,#[],0,Ea _ rfl,⟨rfl,rfl,rfl⟩,rfl,rfl,IG⟩
def qw:TE:=λ_ H Q=>∀p,H p=none->Q (.ref p) (upd H p (.dT []))
section
variable{X:Cx}{pos:Pos}
theorem tw:PE X (.Dict [] [] pos) qw:=λpins s σ H Q I h=>
 wpAny_Dict_empty ⟨.ref s.heap.objs.size,_,I.laid (a:=s.heap.objs.size) (o:=.dT []) (t':=s.toks) (λ_ _ q=>DV _ q) (DY _) (tj s.heap I.big),rfl,h _ (I.hok.fresh (DY _))⟩
end
noncomputable def fx(kvs more:List (Key×V)):List (Key×V):=more.foldl (λacc kv=>jI acc kv.1 kv.2) kvs
theorem KV.merge:∀{more:List (Key×V)}{rs:List (Key×Value)}{kvs:List (Key×V)}{vs:List (Key×Value)},KV more rs->KV kvs vs->KV (fx kvs more) (merged vs rs):=by
 intro more rs kvs vs r;unfold KV at r
 induction r generalizing kvs vs with
 | nil=>intro q;exact q
 | @cons p q ps qs h t ih=>
  intro r0;have e:KV (jI kvs p.1 p.2) (stored vs q.1 q.2):=by
   have:=r0.put p.1 h.2;rw[<-h.1];exact this
  exact ih e
theorem fy:∀(more kvs:List (Key×V)),(fx kvs more).length<=kvs.length+more.length
 | [],kvs=>by show kvs.length<=kvs.length+0;lia
 | p::r,kvs=>by
  have h1:=fy r (jI kvs p.1 p.2);have h2:=eO kvs p.1 p.2;show(fx (jI kvs p.1 p.2) r).length<=_
  rw[Ej];lia
structure M2 (X:Cx) (o:Expr) (m:Str) (apos:Pos) (e f:Expr) (cpos:Pos):Prop where
 base:attributeBase o m X.env (eval o X.env)=eval o X.env
 few:((backTo cpos (starEach [e,f] X.env)).all (λx=>!x.1) && (backToKw cpos (keywordEach [] X.env)).all (λx=>x.1.isSome)
  && decide (([e,f]:List Expr).length+([]:List Keyword).length+(if([]:List Keyword).isEmpty then 0 else 1)<30))=true
 line:(apos.endLine == cpos.line)=true
 trees:backTo cpos (starEach [e,f] X.env)=[(false,eval e X.env),(false,eval f X.env)]
def IsD(H:Hp)(a:Addr):Prop:=(∃kvs,Rd H a (.dK kvs))\/∃kvs,Rd H a (.dT kvs)
theorem zx{H:Hp}{s:Shared}(I:Inv X pins σ H s)(d:IsD H a):
  s.TypeIs (.ref a) "dict"/\(∀b,Ep a=.ref b->∃ob,s.heap.get? b=some ob/\ob.dict=none)/\(a == OS)=false:=by
 rcases d with⟨kvs,e⟩|⟨kvs,e⟩
 ·obtain⟨_,hd,vs,_,dd⟩:=qo I.hok e
  refine⟨dd.typeIs,λb q=>?_,hd⟩;cases q;obtain⟨ob,_,_,h1,h2,_⟩:=dd;exact⟨ob,h1,h2.2.1⟩
 ·obtain⟨_,hd,xs,_,dd⟩:=qp I.hok e
  refine⟨dd.typeIs,λb q=>?_,hd⟩;cases q;obtain⟨ob,_,_,h1,h2,_⟩:=dd;exact⟨ob,h1,h2.2.1⟩
section
variable{X:Cx}{pins:List (Addr×Obj)}{σ:St}{H:Hp}{s:Shared}{a:Addr}{y d:V}{u r:Value}{o:Option V}{A:Around}{E:Value->Shared->Prop}
theorem zy(hu:A.units+1<cLine)(I:Inv X pins σ H s)(g:DGet H a y o)(ry:RelV y u)(rd:RelV d r)(h:∀w' s',Inv X pins σ H s'->RelV (o.getD d) w'->Q w' s'):
  wpAny (model X.prog X.w) A (call (.builtin "dict.get") [.ref a,u,r]) Q E s:=by
 rcases g with⟨kvs,k,e,ey,l⟩|⟨kvs,k,b,e,ey,eb,l⟩
 ·subst ey
  obtain⟨z,hd,vs,rel,dd⟩:=qo I.hok e;refine call_meetsIn Ih dd.typeIs Kh (JL _ _ _) (meets_dict_get_default (bp X.prog X.w) a (qm ry) hd r) ⟨_,dd.mapOf,h _ _ (I.tok _) ?_⟩;rw[l];exact(rel.val k).getD rd
 ·subst ey
  cases(show u=Ep b from ry);obtain⟨z,hd,xs,rel,dd⟩:=qp I.hok e;refine call_meetsIn Ih dd.typeIs Kh (JL _ _ _) (meetsH_dict_get_default (tupleKind (bp X.prog X.w)) a b hd r) ⟨tupleKind_room_in1 hu,k,xs,mV I.hok eb,dd,h _ _ (I.tok _) ?_⟩;rw[l];exact(rel.val k).getD rd
end
def qx(td ty tx:TE):TE:=λσ H Q=>td σ H λx H1=>∃a,x=.ref a/\IsD H1 a/\ty σ H1 λy H2=>tx σ H2 λz H3=>∃o,DGet H3 a y o/\Q (o.getD z) H3
section
variable{X:Cx}{o e f:Expr}{apos cpos:Pos}{td ty tx:TE}
theorem tD (hu:X.A.units+1<cLine) (ho:PE X o td) (he:PE X e ty) (hf:PE X f tx) (m:M2 X o "get" apos e f cpos):PE X (.Call (.Attribute o "get" apos) [e,f] [] cpos) (qx td ty tx):=by
 intro pins s σ H Q I h;refine wpAny_Call_method m.base m.few m.line JM Ih PySem.F.type_dict_get (thn (ho pins s σ H _ I h) λu s1 ⟨x,H1,I1,rx,a,ex,d,q1⟩=>?_);subst ex;obtain rfl:u=Ep a:=rx;obtain⟨t1,t2,_⟩:=zx I1 d;refine⟨t1,t2,?_⟩;rw[m.trees];refine F6 rfl (Il (GI (thn (he pins s1 σ H1 _ I1 q1) λiv s2 ⟨y,H2,I2,ry,q2⟩=>
  GI (thn (hf pins s2 σ H2 _ I2 q2) λfv s3 ⟨z,H3,I3,rz,ov,g,q3⟩=>Hx ?_))))
 exact zy hu I3 g ry rz λw' s4 I4 rw'=>⟨_,H3,I4,rw',q3⟩
end
section
variable{X:Cx}{pins:List (Addr×Obj)}{σ:St}{H:Hp}{s:Shared}{a:Addr}{kvs:List (Key×V)}{A:Around}{E:Value->Shared->Prop}
end
section
variable{X:Cx}{pins:List (Addr×Obj)}{σ:St}{H:Hp}{s:Shared}{a:Addr}{y:V}{u:Value}{A:Around}{E:Value->Shared->Prop}
end
section
variable{X:Cx}{o i value:Expr}{td ty tv:TE}{pos pos':Pos}
theorem wF(hu:X.A.units+1<cLine)(ho:QE X o td)(hi:QE X i ty)(hs:B0 i:=by intro _ _;rfl):QE X (.Subscript o i pos) (zw td ty):=⟨wC hu ho.out hi.out hs⟩
theorem qy(hu:X.A.units+1<cLine)(ho:QE X o td)(hi:QE X i ty)(hv:QE X value tv)(hs:OY value (some (.Subscript o i pos')) pos.line X.env=pure false:=by rfl):
  QS X (.Assign [.Subscript o i pos'] value pos) (wB td ty tv):=⟨wD hu ho.out hi.out hv.out hs⟩
end
theorem fz{os:List Nat}{f:Nat}(h:∀o∈os,o<b)(hf:b<=f):os.count f=0:=FB.mpr λz=>by have:=h f z;lia
theorem tE{os:List Nat}(h:∀o∈os,o<b)(hb:b<=B):cnt os B=cnt os b++Ef (B - b) 0:=by
 apply Jk;intro i;by_cases h1:i<b
 ·rw[Ek (by rw[bF];exact h1),cS h1,cS ⋯]
 ·rw[EE (by rw[bF];lia),bF,F1]
  by_cases h2:i<B
  ·rw[cS h2,if_pos ⋯,fz h ⋯]
  ·rw[if_neg ⋯,Fo (by rw[bF];lia)]
theorem qz{os:List Nat}(h:∀o∈os,o<b)(hb:b<=B):iB (cnt os B)=iB (cnt os b):=by
 rw[tE h hb];unfold iB;have e:(Ef (B - b) 0).filter (λm=>decide (0<m))=[]:=Ki.mpr λa ha=>by rw[GB ha];simp
 rw[FC,e,E1]
theorem lF{os:List Nat}(h:∀o∈os,o<b)(hb:b<=B):cq (cnt os B)=cq (cnt os b):=by unfold cq;rw[qz h hb]
noncomputable def act(C:Nat)(s:cA):Bool:=decide (s.1+2<=s.2.1) && decide (s.2.2<C)
theorem fA(f c b:Nat)(row:List Nat):a0 f (cnt row b) c=(DZ b).map λg=>(f+bC row g,f+bC row (g+1),c):=by
 unfold a0;rw[bF];apply Eo;intro g hg;have hg:=EF.mp hg;rw[cj row b g ⋯,cn,DS,cS hg,G4];rfl
theorem oi{os:List Nat}{f C:Nat}(h:∀o∈os,o<b)(hb:b<=B):(a0 f (cnt os B) c).filter (act C)=(a0 f (cnt os b) c).filter (act C):=by
 rw[fA,fA];have e:DZ B=DZ b++(DZ (B - b)).map (λi=>b+i):=by
  rw[<-List.range_add];congr 1;lia
 rw[e,D0,FC];refine Eq.trans ?_ (E1 _);congr 1;rw[Ki];intro a ha;obtain⟨g,hg,rfl⟩:=D4.mp ha;obtain⟨i,_,rfl⟩:=D4.mp hg;unfold act;have:=cn os (b+i);rw[fz h ⋯]at this;simp only[EH,decide_eq_true_eq,not_and];intro z;lia
noncomputable def cK(rss:List (List Nat))(c:Nat)(os:List Nat):List Nat:=os.map λp=>(bD rss c).getD p 0
noncomputable def cv(os:List Nat)(f l:Nat):List Nat:=(os.drop f).take (l - f)
inductive Fst (rss:List (List Nat)) (C:Nat):List Nat->List cA->List cA->Prop where
 | start:Fst rss C (DZ rss.length) [] ([(0,rss.length,0)].filter (act C))
 | step {os ob:List Nat}{st us:List cA}{f l c:Nat}:Fst rss C os st (us++[(f,l,c)])->cq (cnt (cK rss c (cv os f l)) 64)=true->ByF (cK rss c (cv os f l)) ob->
   Fst rss C (os.take f++cmp (cv os f l) ob++os.drop l) (st++[(f,l,c)]) (us++((a0 f (cnt (cK rss c (cv os f l)) 64) (c+1)).filter (act C)).reverse)
 | stay {os:List Nat}{st us:List cA}{f l c:Nat}:Fst rss C os st (us++[(f,l,c)])->cq (cnt (cK rss c (cv os f l)) 64)=false->
   Fst rss C os st (us++((a0 f (cnt (cK rss c (cv os f l)) 64) (c+1)).filter (act C)).reverse)
theorem i5{os:List Nat}{f l:Nat}(h:f<=l):os.take f++cv os f l++os.drop l=os:=by
 unfold cv;have e1:os.drop l=(os.drop f).drop (l - f):=by rw[F4];congr 1;lia
 rw[e1,EA,EW,EW]
theorem Fst.inv{rss:List (List Nat)}{C:Nat}{os:List Nat}{st us:List cA}(h:Fst rss C os st us):os.Perm (DZ rss.length)/\∀s∈us,s.1+2<=s.2.1/\s.2.1<=rss.length/\s.2.2<C:=by
 have pa:∀{os:List Nat}{f l c:Nat},os.length=rss.length->f<=l->l<=rss.length->∀s∈((a0 f (cnt (cK rss c (cv os f l)) 64) (c+1)).filter (act C)).reverse,s.1+2<=s.2.1/\s.2.1<=rss.length/\s.2.2<C:=by
  intro os f l c hl h1 h2 s hs;obtain⟨hm,ha⟩:=EI.mp (Ft.mp hs);obtain⟨g,_,rfl⟩:=dY hm;unfold act at ha;simp only[EH,decide_eq_true_eq]at ha;refine⟨ha.1,?_,ha.2⟩;have:=du (cK rss c (cv os f l)) (g+1);have e:(cK rss c (cv os f l)).length=l - f:=by unfold cK cv;rw[DT,Ee,EO];lia
  show f+bC _ (g+1)<=_
  lia
 induction h with
 | start=>
  refine⟨FP _,λs hs=>?_⟩;obtain⟨hm,ha⟩:=EI.mp hs;unfold act at ha;simp only[EH,decide_eq_true_eq]at ha;rw[D5.mp hm]at ha ⊢;exact⟨ha.1,DY _,ha.2⟩
 | @step os ob st us f l c _ hp hB ih=>
  obtain⟨a1,a2⟩:=ih;have a3:=a2 (f,l,c) (Eg _ (D5.mpr rfl));have hl:os.length=rss.length:=by have:=a1.length_eq;simpa using this
  refine⟨Hf ?_ a1,λs hs=>?_⟩
  ·have e:=i5 (os:=os) (f:=f) (l:=l) (by have:=a3.1;dsimp only at this;lia)
   conv=>rhs;rw[<-e]
   refine Kc _ (Ie _ ?_);have hO:=hB.ord;refine fi (os:=ob) (xs:=cv os f l) ?_;have:(cK rss c (cv os f l)).length=(cv os f l).length:=by unfold cK;rw[DT]
   rw[this]at hO;exact hO.perm
  ·rcases Et.mp hs with q|q
   ·exact a2 s (EZ _ q)
   ·exact pa hl (by have:=a3.1;dsimp only at this;lia) a3.2.1 s q
 | @stay os st us f l c _ hp ih=>
  obtain⟨a1,a2⟩:=ih;have a3:=a2 (f,l,c) (Eg _ (D5.mpr rfl));have hl:os.length=rss.length:=by have:=a1.length_eq;simpa using this
  refine⟨a1,λs hs=>?_⟩;rcases Et.mp hs with q|q
  ·exact a2 s (EZ _ q)
  ·exact pa hl (by have:=a3.1;dsimp only at this;lia) a3.2.1 s q
theorem Fst.go{rss:List (List Nat)}{C f l:Nat}{os:List Nat}{sts vs:List cA}(h:Fst rss C os sts ((vs++[(f,l,c)]).filter (act C)))(hfl:f+2<=l)(hc:c<C)(hb64:b<=64)
  (hb:∀x∈((os.drop f).take (l - f)).map λp=>(bD rss c).getD p 0,x<b) :
  (∀ob,ByF (((os.drop f).take (l - f)).map λp=>(bD rss c).getD p 0) ob->cq (cnt (((os.drop f).take (l - f)).map λp=>(bD rss c).getD p 0) b)=true->Fst rss C (os.take f++cmp ((os.drop f).take (l - f)) ob++os.drop l) (sts++[(f,l,c)]) ((vs++(a0 f (cnt (((os.drop f).take (l - f)).map λp=>(bD rss c).getD p 0) b) (c+1)).reverse).filter (act C)))/\
  (¬cq (cnt (((os.drop f).take (l - f)).map λp=>(bD rss c).getD p 0) b)=true->Fst rss C os sts ((vs++(a0 f (cnt (((os.drop f).take (l - f)).map λp=>(bD rss c).getD p 0) b) (c+1)).reverse).filter (act C))):=by
 have ea:act C (f,l,c)=true:=by unfold act;simp only[EH,decide_eq_true_eq];exact⟨hfl,hc⟩
 rw[FC,HZ,if_pos ea,J6]at h;have e1:=lF hb hb64;have e2:=oi (f:=f) (c:=c+1) (C:=C) hb hb64;rw[FC,List.filter_reverse,<-e2];constructor
 ·intro ob hB hp
  exact Fst.step h (e1.trans hp) hB
 ·intro hp
  exact Fst.stay h (e1.trans (GQ.mpr hp))
theorem Fst.skip{rss:List (List Nat)}{C f l:Nat}{os:List Nat}{sts vs:List cA}(h:Fst rss C os sts ((vs++[(f,l,c)]).filter (act C)))(hs:l<f+2\/c=C):Fst rss C os sts (vs.filter (act C)):=by
 have ea:¬act C (f,l,c)=true:=by unfold act;simp only[EH,decide_eq_true_eq];lia
 rw[FC,HZ,if_neg ea,J6,E1]at h;exact h
end L2
namespace HT
open PySem PyProof.Rows PySem.W L2
section
variable{prog:Program}{w:World}{A:Around}{E:Value->Shared->Prop}{s:Shared}{a kS:Addr}{vs ks:List Value}{e e1:Nat}{P:NT->Shared->Prop}
end
end HT
namespace L2
open PySem PySem.Spec PyProof.Rows PySem.W
section
variable{X:Cx}{N frs:List Str}{x qual:Str}{ix:List Nat}{scope:Scope}{cl:List (Str×Addr)}{A:Around}{f c' C:Addr}
end
section
variable{X:Cx}{N frs:List Str}{x:Str}{ix:List Nat}{scope:Scope}{cl:List (Str×Addr)}{A:Around}{cc P:Addr}{pins:List (Addr×Obj)}{σ:St}{H:Hp}{s:Shared}{params:Arguments}{body:Expr}{lpos:Pos}
section
variable{te:TE}{t:TA}{p p2 pos pos2 kpos:Pos}{e a:Expr}{k:Nat}{qual:Str}
end
end
section
variable{P:Program}{w:World}{K:DU}{mg:Str->Option Value}{base:Heap}
end
section
variable{X:Cx}{o:Expr}{to:TE}{pos apos cpos:Pos}
end
end L2
namespace L2
open PySem PySem.Spec PyProof.Rows
section
variable{X:Cx}
end
section
variable{K:DU}{H:Hp}{Q:VK}
end
section
variable{H:Hp}{n w:Nat}
end
section
variable{H H1 H2:Hp}
end
section
variable{H H1:Hp}{p a:Addr}{o:HO}
end
section
variable{H H1:Hp}{x:V}{os:List Nat}{a:Addr}{xs:List V}
end
theorem Rk.tr0{rss:List (List Nat)}{k:Nat}(h1:Rk rss c i j)(h2:Rk rss c j k):Rk rss c i k:=by
 unfold Rk at *;rcases h1 with h1|⟨e1,l1⟩
 ·rcases h2 with h2|⟨e2,l2⟩
  ·exact .inl (gZ h1 h2)
  ·rw[e2]at h1;exact .inl h1
 ·rcases h2 with h2|⟨e2,l2⟩
  ·rw[<-e1]at h2;exact .inl h2
  ·exact .inr ⟨e1.trans e2,by lia⟩
structure Seg (rss:List (List Nat)) (f l:Nat) (x:List Nat):Prop where
 perm:x.Perm (FV f (l - f))
 sort:x.Pairwise (Rk rss 0)
section
variable{rss:List (List Nat)}{f m l:Nat}{x y:List Nat}
theorem Seg.len(h:Seg rss f l x):x.length=l - f:=by have:=h.perm.length_eq;simpa using this
theorem Seg.mem(h:Seg rss f l x)(hi:i∈x):f<=i/\i<l:=by
 have:=h.perm.mem_iff.mp hi;rw[List.mem_range'_1]at this;lia
theorem Seg.both(hx:Seg rss f m x)(hy:Seg rss m l y)(h1:f<=m)(h2:m<=l):(x++y).Perm (FV f (l - f)):=by
 have e:FV f (l - f)=FV f (m - f)++FV m (l - m):=by
  rw[show l - f=(m - f)+(l - m)by lia,<-KD,show f+(m - f)=m by lia]
 rw[e];exact hx.perm.append hy.perm
end
noncomputable def Part(rss:List (List Nat)):Nat->List Nat->List Nat->Prop
 | _,[],o=>o=[]
 | f,a::r,o=>∃x y,o=x++y/\x.length=a/\Seg rss f (f+a) x/\Part rss (f+a) r y
section
variable{rss:List (List Nat)}
theorem Part.len:∀{ls:List Nat}{f:Nat}{o:List Nat},Part rss f ls o->o.length=ls.sum
 | [],_,_,h=>by rw[show _=[]from h];rfl
 | a::r,f,o,⟨x,y,e,hx,_,hy⟩=>by rw[e,D8,hx,Part.len hy,EJ]
theorem Part.snoc:∀{ls:List Nat}{f a:Nat}{o x:List Nat},Part rss f ls o->Seg rss (f+ls.sum) (f+ls.sum+a) x->Part rss f (ls++[a]) (o++x)
 | [],f,a,o,x,h,g=>by
  rw[show o=[]from h];exact⟨x,[],by simp,by have:=g.len;lia,by simpa using g,rfl⟩
 | b::r,f,a,o,x,⟨u,v,e,hu,hs,hv⟩,g=>by
  refine⟨u,v++x,by rw[e,EA],hu,hs,Part.snoc hv ?_⟩;rw[EJ,<-G4]at g;exact g
noncomputable def RnS(rss:List (List Nat))(n:Nat):List cA->List Nat->Prop
 | [],o=>Seg rss 0 n o
 | s::r,o=>s.1<=s.2.1/\s.2.1<=s.2.2/\s.2.2<=o.length/\Seg rss s.1 s.2.1 ((o.drop s.1).take (s.2.1 - s.1))/\Seg rss s.2.1 s.2.2 ((o.drop s.2.1).take (s.2.2 - s.2.1))/\
  ∀x,Seg rss s.1 s.2.2 x->RnS rss n r (o.take s.1++x++o.drop s.2.2)
theorem RnS.round{rest:List cA}(f:Nat)(ls:List Nat):∀{don pre o:List Nat},Part rss 0 don pre->don.sum=f->Part rss f ls o->(∀o',Part rss 0 (don++(rnd f ls).2) o'->RnS rss n rest o')->RnS rss n ((rnd f ls).1++rest) (pre++o):=by
 induction f,ls using rnd.induct with
 | case1 f a b r ih=>
  rintro don pre o hd hf ⟨x,o1,rfl,hx,sx,y,z,rfl,hy,sy,hz⟩ k;have hpl:pre.length=f:=by rw[hd.len,hf]
  rw[fR];have d1:(pre++(x++(y++z))).drop f=x++(y++z):=by rw[<-hpl,Kr]
  have d2:(pre++(x++(y++z))).drop (f+a)=y++z:=by
   rw[<-F4,d1,<-hx,Kr]
  have d3:(pre++(x++(y++z))).drop (f+a+b)=z:=by
   rw[<-F4,d2,<-hy,Kr]
  refine⟨Fj _ _,Fj _ _,?_,?_,?_,λw sw=>?_⟩
  ·show f+a+b<=_
   simp only[D8];lia
  ·show Seg rss f (f+a) (((pre++(x++(y++z))).drop f).take (f+a - f))
   rw[d1,show f+a - f=x.length by lia,Ks];exact sx
  ·show Seg rss (f+a) (f+a+b) (((pre++(x++(y++z))).drop (f+a)).take (f+a+b - (f+a)))
   rw[d2,show f+a+b - (f+a)=y.length by lia,Ks];exact sy
  ·show RnS rss n _ ((pre++(x++(y++z))).take f++w++(pre++(x++(y++z))).drop (f+a+b))
   rw[d3];have t1:(pre++(x++(y++z))).take f=pre:=by rw[<-hpl,Ks]
   rw[t1];refine ih (don:=don++[a+b]) (hd.snoc ?_) (by simp;lia) hz λo' ho'=>?_
   ·rw[hf,Ld,show f+(a+b)=f+a+b by lia];exact sw
   ·refine k o' ?_
    rw[fR];rw[EA]at ho';exact ho'
 | case2 f a=>
  rintro don pre o hd hf ⟨x,o1,rfl,hx,sx,rfl⟩ k;rw[fS,Gc,E1];refine k _ ?_;rw[fS];refine hd.snoc ?_;rw[hf,Ld];exact sx
 | case3 f=>
  rintro don pre o hd hf ho k;rw[show o=[]from ho,dM,Gc,E1];refine k _ ?_;rw[dM,E1];exact hd
theorem RnS.all:∀(m:Nat) (ls:List Nat){o:List Nat},ls.length<=m->Part rss 0 ls o->RnS rss ls.sum (eL ls) o
 | 0,ls,o,h,p=>by
  have:ls=[]:=Fi.mp ⋯;subst this;rw[fq (by simp),show o=[]from p];exact⟨FP _,GP⟩
 | m+1,ls,o,h,p=>by
  by_cases g:1<ls.length
  ·obtain⟨l1,l2⟩:=hZ 0 ls
   rw[ia g];have:=RnS.round (rss:=rss) (n:=ls.sum) (rest:=eL (rnd 0 ls).2) 0 ls (don:=[]) (pre:=[]) (o:=o) rfl rfl p λo' ho'=>by
    have:=RnS.all m (rnd 0 ls).2 ⋯ ho';rw[ql]at this;exact this
   simpa using this
  ·rw[fq g]
   match ls,p with
   | [],p=>rw[show o=[]from p];exact⟨FP _,GP⟩
   | [a],⟨x,y,e,hx,sx,hy⟩=>
    rw[show y=[]from hy,E1]at e;subst e;show Seg rss 0 _ _
    simpa using sx
   | a::b::r,_=>exact absurd (by simp) g
def Rise(rss:List (List Nat))(f a:Nat):Prop:=∀i,f<=i->i+1<f+a->brk rss (i+1)=false
theorem Rise.seg{f a:Nat}(h:Rise rss f a):Seg rss f (f+a) (FV f a):=by
 refine⟨by rw[show f+a - f=a by lia],?_⟩;have step:∀i,f<=i->i+1<f+a->Rk rss 0 i (i+1):=λi h1 h2=>by
  have:=h i h1 h2;unfold brk at this;rw[IT]at this;unfold Rk;rw[EB,EB];rcases lA (rss.getD i []) (rss.getD (i+1) [])with q|q|q
  ·exact .inl q
  ·exact .inr ⟨q,by lia⟩
  ·rw[q]at this;cases this
 have far:∀d i,f<=i->i+d+1<f+a->Rk rss 0 i (i+d+1):=λd=>by
  induction d with
  | zero=>exact λi h1 h2=>step i h1 h2
  | succ d ih=>exact λi h1 h2=>(ih i h1 ⋯).tr0 (step (i+d+1) ⋯ ⋯)
 rw[EL];intro i j hi hj hij;simp only[Lc]at hi hj;simp only[List.getElem_range',Ny];have:=far (j - i - 1) (f+i) ⋯ ⋯;rw[show f+i+(j - i - 1)+1=f+j by lia]at this;exact this
noncomputable def Rises(rss:List (List Nat)):Nat->List Nat->Prop
 | _,[]=>True
 | f,a::r=>Rise rss f a/\Rises rss (f+a) r
theorem Rises.snoc:∀{ls:List Nat}{f a:Nat},Rises rss f (ls++[a])↔Rises rss f ls/\Rise rss (f+ls.sum) a
 | [],f,a=>by simp[Rises]
 | b::r,f,a=>by
  rw[HY];show(Rise rss f b/\Rises rss (f+b) (r++[a]))↔(Rise rss f b/\Rises rss (f+b) r)/\Rise rss (f+(b::r).sum) a
  rw[Rises.snoc,EJ,<-G4,and_assoc]
theorem kz(rss:List (List Nat)):∀m,Rises rss 0 (b6 rss m)
 | 0=>D3
 | m+1=>by
  have ih:=kz rss m;rw[b6];split
  ·rename_i h
   obtain⟨m',rfl⟩:∃m',m=m'+1:=⟨m - 1,by lia⟩
   obtain⟨ys,a,e⟩:=lD (ic rss m');have hs:=fu rss (m'+1);rw[e]at ih hs;rw[e,ib];rw[Rises.snoc]at ih ⊢;refine⟨ih.1,λi h1 h2=>?_⟩;simp at hs;by_cases g:i+1<0+ys.sum+a
   ·exact ih.2 i h1 g
   ·rw[show i+1=m'+1 by lia];exact h.2
  ·rw[Rises.snoc]
   exact⟨ih,λi h1 h2=>by lia⟩
theorem Rises.part:∀{ls:List Nat}{f:Nat},Rises rss f ls->Part rss f ls (FV f ls.sum)
 | [],_,_=>rfl
 | a::r,f,⟨h1,h2⟩=>⟨FV f a,FV (f+a) r.sum,by rw[EJ,<-KD],by simp,h1.seg,Rises.part h2⟩
theorem oj(rss:List (List Nat))(n:Nat):Part rss 0 (b6 rss n) (DZ n):=by
 have:=(kz rss n).part;rw[fu,<-KE]at this;exact this
theorem tF(rss:List (List Nat))(n:Nat):RnS rss n (eL (b6 rss n)) (DZ n):=by
 have:=RnS.all _ (b6 rss n) (DY _) (oj rss n);rw[fu]at this;exact this
end
inductive Mgd (r1 r2:List (List Nat)):Nat->Nat->List (Nat×Nat)->Prop where
 | nil:Mgd r1 r2 0 0 []
 | one {i j:Nat}{ws:List (Nat×Nat)}(h:Mgd r1 r2 i j ws) (hi:i<r1.length) (c:j=r2.length\/lxt (r2.getD j []) (r1.getD i [])=false):Mgd r1 r2 (i+1) j (ws++[(0,i)])
 | two {i j:Nat}{ws:List (Nat×Nat)}(h:Mgd r1 r2 i j ws) (hj:j<r2.length) (c:i=r1.length\/lxt (r2.getD j []) (r1.getD i [])=true):Mgd r1 r2 i (j+1) (ws++[(1,j)])
noncomputable def gb(xs ys:List Nat)(w:Nat×Nat):Nat:=if w.1=0 then xs.getD w.2 0 else ys.getD w.2 0
theorem jJ{rss:List (List Nat)}{xs:List Nat}(h:xs.Pairwise (Rk rss 0)){k:Nat}(hik:i<k)(hk:k<xs.length):Rk rss 0 (xs.getD i 0) (xs.getD k 0):=by
 rw[EL]at h;have:=h i k ⋯ hk hik;rw[DS,DS,DR (by lia:i<xs.length),DR hk];exact this
theorem fB{rss:List (List Nat)}{xs:List Nat}(h:i<xs.length):(xs.map λx=>rss.getD x []).getD i []=rss.getD (xs.getD i 0) []:=by
 rw[DS,DX,DS (l:=xs),DR h];rfl
theorem kA{xs:List Nat}(h:i<xs.length):xs.getD i 0∈xs:=by
 rw[DS,DR h];exact D1 h
theorem i6{xs:List Nat}(h:i<xs.length):xs.take (i+1)=xs.take i++[xs.getD i 0]:=by
 rw[D7,DS,DR h];rfl
theorem Mgd.inv{rss:List (List Nat)}{xs ys:List Nat}{f l:Nat}{ws:List (Nat×Nat)}(hx:Seg rss f m xs)(hy:Seg rss m l ys)
  (h:Mgd (xs.map λx=>rss.getD x []) (ys.map λx=>rss.getD x []) i j ws):i<=xs.length/\j<=ys.length/\(ws.map (gb xs ys)).Perm (xs.take i++ys.take j)/\(ws.map (gb xs ys)).Pairwise (Rk rss 0)/\
   ∀z∈ws.map (gb xs ys),(∀k,i<=k->k<xs.length->Rk rss 0 z (xs.getD k 0))/\(∀k,j<=k->k<ys.length->Rk rss 0 z (ys.getD k 0)):=by
 induction h with
 | nil=>exact⟨Ec _,Ec _,by simp,GP,λz hz=>nomatch hz⟩
 | @one i j ws h hi c ih=>
  obtain⟨h1,h2,h3,h4,h5⟩:=ih;rw[DT]at hi c;have ez:(ws++[(0,i)]).map (gb xs ys)=ws.map (gb xs ys)++[xs.getD i 0]:=by rw[D0];rfl
  have ryj:j<ys.length->Rk rss 0 (xs.getD i 0) (ys.getD j 0):=λhj=>by
   rcases c with c|c
   ·lia
   ·rw[fB hj,fB hi]at c
    unfold Rk;rw[EB,EB];rcases lA (rss.getD (xs.getD i 0) []) (rss.getD (ys.getD j 0) [])with q|q|q
    ·exact .inl q
    ·exact .inr ⟨q,by have a:=hx.mem (kA hi);have b:=hy.mem (kA hj);lia⟩
    ·rw[q]at c;cases c
  rw[ez];refine⟨hi,h2,?_,?_,λz hz=>?_⟩
  ·rw[i6 hi]
   refine(h3.append_right [xs.getD i 0]).trans ?_;rw[EA,EA];exact Ie _ Ii
  ·rw[Fb]
   exact⟨h4,FJ _ _,λa ha b hb=>by rw[D5.mp hb];exact(h5 a ha).1 i (DY _) hi⟩
  ·rcases Et.mp hz with hz|hz
   ·exact⟨λk a b=>(h5 z hz).1 k ⋯ b,(h5 z hz).2⟩
   ·rw[D5.mp hz]
    refine⟨λk a b=>jJ hx.sort ⋯ b,λk a b=>?_⟩;have:=ryj ⋯;rcases Nf j k with g|g
    ·exact this.tr0 (jJ hy.sort g b)
    ·rw[show k=j by lia];exact this
 | @two i j ws h hj c ih=>
  obtain⟨h1,h2,h3,h4,h5⟩:=ih;rw[DT]at hj c;have ez:(ws++[(1,j)]).map (gb xs ys)=ws.map (gb xs ys)++[ys.getD j 0]:=by rw[D0];rfl
  have rxi:i<xs.length->Rk rss 0 (ys.getD j 0) (xs.getD i 0):=λhi=>by
   rcases c with c|c
   ·lia
   ·rw[fB hj,fB hi]at c
    exact .inl (by rw[EB,EB];exact c)
  rw[ez];refine⟨h1,hj,?_,?_,λz hz=>?_⟩
  ·rw[i6 hj,<-EA]
   exact h3.append_right _
  ·rw[Fb]
   exact⟨h4,FJ _ _,λa ha b hb=>by rw[D5.mp hb];exact(h5 a ha).2 j (DY _) hj⟩
  ·rcases Et.mp hz with hz|hz
   ·exact⟨(h5 z hz).1,λk a b=>(h5 z hz).2 k ⋯ b⟩
   ·rw[D5.mp hz]
    refine⟨λk a b=>?_,λk a b=>jJ hy.sort ⋯ b⟩;have:=rxi ⋯;rcases Nf i k with g|g
    ·exact this.tr0 (jJ hx.sort g b)
    ·rw[show k=i by lia];exact this
theorem Mgd.seg{rss:List (List Nat)}{xs ys:List Nat}{f l:Nat}{ws:List (Nat×Nat)}(hx:Seg rss f m xs)(hy:Seg rss m l ys)(h1:f<=m)(h2:m<=l)
  (h:Mgd (xs.map λx=>rss.getD x []) (ys.map λx=>rss.getD x []) xs.length ys.length ws):Seg rss f l (ws.map (gb xs ys)):=by
 obtain⟨_,_,p,s,_⟩:=h.inv hx hy;rw[G0,G0]at p;exact⟨p.trans (hx.both hy h1 h2),s⟩
section
variable{X:Cx}{pos:Pos}
end
section
variable{X:Cx}{tg a b c:Expr}{t:TA}{p pos:Pos}
end
end L2
namespace HT
open PySem PyProof.Rows PySem.W L2
section
variable{α β:Type}
end
end HT
namespace L2
open PySem PySem.Spec PyProof.Rows
section
variable{X:Cx}{pins:List (Addr×Obj)}{σ:St}{H:Hp}{s:Shared}{h':Heap}
end
noncomputable abbrev TEX:=St->Hp->VK->(Addr->Option Addr->Hp->Prop)->Prop
section
variable{X:Cx}{st:Stmt}{sts s1 s2:List Stmt}{T1 T2:TX}{c e:Expr}{es:List Expr}{tA:TT}{te:TE}{t:TA}{pos p:Pos}{x:Str}{i:Nat}
variable{tx:TEX}
end
section
variable{X:Cx}{pins:List (Addr×Obj)}{σ:St}{H:Hp}{s:Shared}{h':Heap}
end
section
variable{P:Program}{w:World}{K:DU}{mg:Str->Option Value}{base:Heap}
end
end L2
namespace L2
open PySem PySem.Spec PyProof.Rows PySem.W
section
variable{prog:Program}{w:World}{A:Around}{E:Value->Shared->Prop}{h:Heap}{g:Array GenState}{d:Drawn}{t:Nat}{os:OsState}{K:Frag}{a C:Addr}{o:Obj}{vs:Array Value}
end
section
variable{X:Cx}
end
section
variable{X:Cx}{e:Expr}{es:List Expr}{t:TA}{np cpos pos p:Pos}{x:Str}{C:Addr}
end
section
variable{X:Cx}{pins:List (Addr×Obj)}{σ:St}{H:Hp}{s:Shared}
end
section
variable{X:Cx}{body suite:List Stmt}{b0:Stmt}{tb:TX}{ts:TS}{n x:Str}{i:Nat}{C:Addr}{np hpos pos:Pos}
end
end L2
namespace L2
open PySem PySem.Spec PyProof.Rows
section
variable{X:Cx}{v:Expr}{te:TE}{a b:Str}{p1 p2 p3 pos:Pos}{j1 j3:Nat}
end
section
variable{D:Ends}{Ex:XW}{σ:St}{H:Hp}{Q:VK}{K:DU}{i:Nat}{C:Addr}
end
section
variable{X:Cx}
end
section
variable{H H1:Hp}{x:V}{n:Nat}
end
end L2
namespace HT
open PySem PyProof.Rows PySem.W L2
noncomputable def lt2(k m:List Int×List Int):Bool:=if k.1=m.1 then cM k.2 m.2 else cM k.1 m.1
theorem jK(prog:Program)(w:World):∀{xs:List Value}{ns:List Int},OI xs ns->ItemsAre (intKind prog w) ns xs
 | _,_,.nil=>.nil
 | _,_,.cons n t r=>.cons (by simp[intKind,Lx]) (jK prog w r)
section
variable{prog:Program}{w:World}{A:Around}{E:Value->Shared->Prop}{s:Shared}
theorem wG{x y q q':Addr}{its its2 jts jts2:Array Value}{us us2:List Value}{k m:List Int×List Int}{Q:Bool->Shared->Prop}(hu:A.units<cLine)(hx:IsTup s.heap x its)(hy:IsTup s.heap y its2)(ex:its.toList=.ref q::us)(ey:its2.toList=.ref q'::us2)(hi:OI us k.2)(hj:OI us2 m.2)
  (hq:IsTup s.heap q jts) (hq':IsTup s.heap q' jts2) (iq:OI jts.toList k.1) (iq':OI jts2.toList m.1) (h:Q (lt2 k m) s) :
  wpAny (model prog w) A (keyLt' (tuples' false) (.ref x) (.ref y)) Q E s:=by
 obtain⟨o,ho,hc,n,hd⟩:=id hx;obtain⟨o2,ho2,hc2,n2,hd2⟩:=id hy;refine kat_lt ho hd ho2 hd2 ?_;rw[ex,ey,FN];obtain⟨ov,hov,hcv,nv,hdv⟩:=id hq;obtain⟨ov2,hov2,hcv2,nv2,hdv2⟩:=id hq';refine kat_cons (wpAny_eqBool_tuple (knd:=intKind prog w) hu ⟨ov,jts,nv,hov,hcv,hdv,jK prog w iq⟩ ⟨ov2,jts2,nv2,hov2,hcv2,hdv2,jK prog w iq'⟩ ?_);unfold lt2 at h;by_cases g:k.1=m.1
 ·rw[if_pos g]at h
  rw[decide_eq_true g];refine kat_yes (mT hi hj 1 false ?_ h);have e1:its.size=its.toList.length:=rfl;have e2:its2.size=its2.toList.length:=rfl;rw[e1,e2,ex,ey,Ej,Ej,<-hi.length,<-hj.length];simp
 ·rw[if_neg g]at h
  rw[decide_eq_false g];refine kat_no ?_;exact kat_one _ _ (nI hq hq' iq iq' hu h)
theorem tG{vs fs:List Value}{Q:SortKind->Shared->Prop}(h2:2<=vs.length)(hl:vs.length=fs.length)(t:KatTups s.heap vs fs)(hf:∀f∈fs,∃q its,f=.ref q/\IsTup s.heap q its)
  (h:Q (tuples' false) s):wpAny (model prog w) A (keyKind' vs.toArray) Q E s:=by
 refine kat_kind (T:=GW "tuple") t ⋯ (λv hv=>?_) rfl h;obtain⟨q,its,rfl,o,ho,hc,_⟩:=hf v hv;rw[<-hc];exact(Looks.ld ho).andThen .now
theorem mW:∀{vs:List Value}{fs:List Value},vs.length=fs.length->(∀(i:Nat) v f,vs[i]? = some v->fs[i]? = some f->∃a its us,v=.ref a/\IsTup s.heap a its/\its.toList=f::us)->KatTups s.heap vs fs
 | [],[],_,_=>.nil
 | v::vs,f::fs,hl,h=>by
  have k1:=mW (vs:=vs) (fs:=fs) (by simpa using hl) (λi v r e1 e2=>h (i+1) v r (by simpa using e1) (by simpa using e2));obtain⟨a,its,us,rfl,⟨o,ho,hc,n,hd⟩,hi⟩:=h 0 v f rfl rfl;obtain⟨its'⟩:=its;simp only at hi;subst hi;exact KatTups.cons (f:=f) ho hc hd (by simp) k1
end
end HT
namespace L2
open PySem PySem.Spec PyProof.Rows
section
variable{X:Cx}
end
section
variable{X:Cx}{o e value:Expr}{es:List Expr}{f m x:Str}{pos pos' tpos apos p:Pos}{ta tv:TE}{t:TA}{C g:Addr}{CX:CXT}{k:Nat}{fd:FuncData}{ps:List Str}{sp:Sp}{E:XK}
end
section
variable{K:DU}{σ:St}{H:Hp}{Q:VK}{D:Ends}{ta tv:TE}{t:TA}{f m:Str}{C:Addr}{sp:Sp}{E:XK}{a dx:Addr}{fs:List (Str×V)}{v:V}
end
def qA(x:V)(d:PyData):Prop:=(x=.non/\d=.none)\/(∃b,x=.bl b/\d=.bool b)\/(∃i:Int,x=.int i/\d=.int i)\/(∃y,x=.str y/\d=.str y/\JF y=true)
noncomputable def DatE:Nat->Hp->V->PyData->Prop
 | 0,_,x,d=>qA x d
 | n+1,H,x,d=>qA x d\/(∃a xs ds,x=.ref a/\d=.list ds/\H a=some (.lst xs)/\xs.length=ds.length/\∀(i:Nat) u e,xs[i]? = some u->ds[i]? = some e->DatE n H u e)\/
  (∃a xs ds,x=.ref a/\d=.tuple ds/\H a=some (.tup xs)/\xs.length=ds.length/\∀(i:Nat) u e,xs[i]? = some u->ds[i]? = some e->DatE n H u e)
theorem DatE.leaf{H:Hp}{x:V}{d:PyData}(h:qA x d):∀{n:Nat},DatE n H x d
 | 0=>h
 | n+1=>.inl h
theorem DatE.int{H:Hp}{n:Nat}(i:Int):DatE n H (.int i) (.int i):=DatE.leaf (.inr (.inr (.inl ⟨i,rfl,rfl⟩)))
theorem DatE.str{H:Hp}{n:Nat}{y:Str}(h:JF y=true):DatE n H (.str y) (.str y):=DatE.leaf (.inr (.inr (.inr ⟨y,rfl,rfl,h⟩)))
theorem DatE.lst{H:Hp}{n:Nat}{a:Addr}{xs:List V}{ds:List PyData}(e:H a=some (.lst xs))(hl:xs.length=ds.length)(h:∀(i:Nat) u e,xs[i]? = some u->ds[i]? = some e->DatE n H u e):DatE (n+1) H (.ref a) (.list ds):=
 .inr (.inl ⟨a,xs,ds,rfl,rfl,e,hl,h⟩)
theorem DatE.tup{H:Hp}{n:Nat}{a:Addr}{xs:List V}{ds:List PyData}(e:H a=some (.tup xs))(hl:xs.length=ds.length)(h:∀(i:Nat) u e,xs[i]? = some u->ds[i]? = some e->DatE n H u e):DatE (n+1) H (.ref a) (.tuple ds):=
 .inr (.inr ⟨a,xs,ds,rfl,rfl,e,hl,h⟩)
theorem DatE.facts{H:Hp}:∀{n:Nat}{x:V}{d:PyData},DatE n H x d->d.canLay0=true/\d.depth<=n
 | n,x,d,h=>by
  have hint:qA x d->d.canLay0=true/\d.depth<=n:=by
   rintro(⟨rfl,rfl⟩|⟨b,rfl,rfl⟩|⟨i,rfl,rfl⟩|⟨y,rfl,rfl,hy⟩)
   ·exact⟨rfl,Ec _⟩
   ·exact⟨rfl,Ec _⟩
   ·exact⟨rfl,Ec _⟩
   ·exact⟨hy,Ec _⟩
  match n,h with
  | 0,h=>exact hint h
  | n+1,h=>
   rcases h with h|⟨a,xs,ds,rfl,rfl,ha,hl,hi⟩|⟨a,xs,ds,rfl,rfl,ha,hl,hi⟩
   ·exact hint h
   ·have hd:∀d∈ds,d.canLay0=true/\d.depth<=n:=λd hd=>by
     obtain⟨i,e⟩:=GY hd;have hlt:=br e;exact DatE.facts (hi i (xs[i]'⋯) d (DR _) e)
    exact⟨qc (P:=Mq) (PA:=Lu) rfl (λ_ _=>rfl) λd h=>(hd d h).1,LQ (eJ λd h=>(hd d h).2)⟩
   ·have hd:∀d∈ds,d.canLay0=true/\d.depth<=n:=λd hd=>by
     obtain⟨i,e⟩:=GY hd;have hlt:=br e;exact DatE.facts (hi i (xs[i]'⋯) d (DR _) e)
    exact⟨qc (P:=Mq) (PA:=Lu) rfl (λ_ _=>rfl) λd h=>(hd d h).1,LQ (eJ λd h=>(hd d h).2)⟩
section
variable{X:Cx}{pins:List (Addr×Obj)}{σ:St}{H:Hp}{s:Shared}
theorem DatE.reads(I:Inv X pins σ H s):∀{n:Nat}{x:V}{d:PyData}{v:Value},DatE n H x d->RelV x v->∃as,Reads s.heap v d as
 | n,x,d,v,h,r=>by
  have hint:qA x d->∃as,Reads s.heap v d as:=by
   rintro(⟨rfl,rfl⟩|⟨b,rfl,rfl⟩|⟨i,rfl,rfl⟩|⟨y,rfl,rfl,_⟩)
   ·cases r;exact⟨_,.none⟩
   ·cases r;exact⟨_,.bool b⟩
   ·obtain⟨t,rfl⟩:=r;exact⟨_,.int i t⟩
   ·obtain⟨t,rfl⟩:=r;exact⟨_,.str y t⟩
  match n,h with
  | 0,h=>exact hint h
  | n+1,h=>
   rcases h with h|⟨a,xs,ds,rfl,rfl,ha,hl,hi⟩|⟨a,xs,ds,rfl,rfl,ha,hl,hi⟩
   ·exact hint h
   ·cases r
    obtain⟨its,m,rv,ho,hz⟩:=I.lst ha;obtain⟨as,h1⟩:=eK (R:=DatE n H) (λx v d h r=>DatE.reads I h r) rv hl hi;exact⟨_,.list ho rfl rfl (by simpa using h1)⟩
   ·cases r
    obtain⟨its,rv,⟨ob,ho,hc,m,hd⟩,hz⟩:=I.tuple (Oe ha);obtain⟨as,h1⟩:=eK (R:=DatE n H) (λx v d h r=>DatE.reads I h r) rv hl hi;exact⟨_,.tuple ho hc hd (by simpa using h1)⟩
def C3:R2:=λx y H Q=>∃(n:Nat) (d e:PyData),DatE n H x d/\DatE n H y e/\n<=32/\Q (.bl (!PyData.eqv d e)) H
theorem zz(hu:X.A.units+64<cLine):QOp X (OC .NotEq) C3:=by
 refine⟨λpins s σ H x y v u Q I rx ry h=>?_⟩;obtain⟨n,d,e,hd,he,hn,q⟩:=h;obtain⟨as,r1⟩:=hd.reads I rx;obtain⟨bs,r2⟩:=he.reads I ry;have f1:=hd.facts;have f2:=he.facts;exact Ng r1 r2 f1.1 f2.1 (by have:=Nat.min_le_left d.depth e.depth;have:=f1.2;lia) X.prog X.w X.xe _ ⟨.bl _,H,I,rfl,q⟩
end
section
variable{H:Hp}{Q:VK}{x y:V}{n:Nat}{d e:PyData}
theorem kB(h1:DatE n H x d)(h2:DatE n H y d)(hn:n<=32)(h:Q (.bl false) H):C3 x y H Q:=⟨n,d,d,h1,h2,hn,by rw[NI d h1.facts.1];exact h⟩
end
end L2
namespace HT
open PySem PyProof.Rows PySem.W L2
section
variable{prog:Program}{w:World}{A:Around}{E:Value->Shared->Prop}{s:Shared}
end
end HT
namespace L2
open PySem PySem.Spec PyProof.Rows PySem.W
section
variable{X:Cx}{e:Expr}{t:TA}{p pos kpos cp:Pos}{k:Nat}{j:Nat}
theorem zA{s:Shared}{E:Value->Shared->Prop}{Q:List Value->Shared->Prop}{a:Expr}(h:wpAny (model X.prog X.w) X.A (eval a X.env) (λv s'=>Q [v] s') E s):
  wpAny (model X.prog X.w) X.A (evalAll ((backToKw pos (keywordEach [⟨some x,a,kpos⟩] X.env)).map (·.2))) Q E s:=by
 show wpAny _ _ (evalAll ((do let v <-eval a X.env;standAt pos;pure v)::[])) _ _ s
 exact wpAny_evalAll_cons (Ov (OD h (λv s' hq=>Ov (OX (Ow (wpAny_evalAll_nil hq)))) λ_ _ z=>z))
end
end L2
namespace L2
open PySem PySem.Spec PyProof.Rows
section
variable{qs:List (Nat×Nat)}{b:Nat}{st:HW}
end
section
variable{qs:List (Nat×Nat)}{b:Nat}{st:HW}
end
section
variable(pa:Addr)(hv v:V)(ma ea:Addr)(n m:Int)
end
section
variable{C:Addr}{H H1:Hp}{w pa ma ea:Addr}{vs:List V}{hv:V}{st:HW}
end
end L2
namespace HT
open PySem PyProof.Rows PySem.W L2
section
open PySem.SeqAt
open PySem.AutoSeq1 (wpAny_loadPart')
open PySem.MeetsSeq PySem.MeetsSeq2 PySem.MeetsSeq3
end
section
variable{prog:Program}{w:World}{A:Around}{E:Value->Shared->Prop}{s:Shared}
end
end HT
namespace L2
open PySem PySem.Spec PyProof.Rows
section
variable{X:Cx}
end
section
variable{prog:Program}{w:World}{A:Around}{R:Result->Shared->Prop}{s:Shared}{scope:Scope}
end
section
variable{X:Cx}{N tgs frs:List Str}{ix:List Nat}{scope:Scope}{cl:List (Str×Addr)}
end
section
variable{K:DU}{g g2:TG}{wi2:TI}{te:TE}{σ0:St}{H:Hp}{R:List V->Hp->Prop}
end
inductive RMv where
 | take (p:Nat)
 | move (p q:Nat)
 | lay (p:Nat)
section
variable{H H1:Hp}{v y:V}{d:PyData}
variable{vs us rs:List V}{ds:List PyData}
end
section
variable(ta:Addr)(hv v:V)(pa:Addr)(n m:Int)
end
section
variable{C:Addr}{H H1:Hp}{w ta pa:Addr}{ps:List Addr}{us:List V}{hv:V}{ms:List RMv}{d:Nat}
end
section
variable{X:Cx}{e:Expr}{es:List Expr}{t:TA}{pos p:Pos}{x:Str}{C f:Addr}
end
end L2
namespace HT
open PySem PySem.Spec PyProof.Rows PySem.W L2
section
variable{prog:Program}{w:World}{A:Around}{E:Value->Shared->Prop}{s:Shared}
end
end HT
namespace L2
open PySem PySem.Spec PyProof.Rows
theorem i7:∀{ys:List Str}{us:List Value},Vals (ys.map Oh) us->StrsAre us ys
 | [],_,h=>by cases h;exact .nil
 | y::ys,_,h=>by
  cases h with
  | cons rv r=>obtain⟨t,rfl⟩:=rv;exact .cons y t (i7 r)
section
variable{X:Cx}
end
noncomputable def turn(r:List Nat):List Nat:=r.take 1++(r.drop 1).reverse
section
variable{H H1:Hp}{v y z:V}{d e:Option (List Nat×Nat)}
variable{vs us rs:List V}
end
section
variable{C:Addr}{H H1:Hp}{w ta pa:Addr}{ps:List Addr}{us:List V}{hv:V}{ms:List RMv}{d:Nat}
end
section
variable{H H1:Hp}{vs us:List V}{ds:List (List Nat×Nat)}{v:V}{d:List Nat×Nat}
end
section
variable{X:Cx}{e:Expr}{te:TE}{pos p1 p2 p3 p4 p5:Pos}{j j':Nat}
end
end L2
namespace HT
open PySem PyProof.Rows PySem.W L2
section
variable{prog:Program}{w:World}{A:Around}{E:Value->Shared->Prop}
def C4(f:Nat->Int)(d v:Value)(n:Nat):Prop:=n=0/\v=d\/∃(i:Nat) (t:Tok),i<n/\v=.int (f i) t/\∀m,m<n->f m<=f i
theorem qB{I:Addr}{wr:List Addr}{P:Nat->Value->Prop}{St:Nat->Heap->Prop}{d:Value}{R:Result->Shared->Prop}(f:Nat->Int)(W:Walks prog w A.in1 I fp wr n P St)(hf:∀i v,P i v->∃t,v=.int (f i) t)(hSf:S∉fp):
  ∀(k j:Nat) (s:Shared) (vb:List Value) (c:Nat),n - j=k->j<=n->St j s.heap->s.heap.get? S=some (OH "list" vb.toArray c)->
   (vb=[]/\j=0\/∃(i:Nat) (t:Tok),i<j/\vb=[.int (f i) t,.int (f i) t]/\∀m,m<j->f m<=f i)->
   (∀v h' tk,C4 f d v n->(∀b o,b∉wr->b≠S->s.heap.get? b=some o->h'.get? b=some o)->R (.ok (.ret v)) { s with heap:=h',toks:=tk })->
   codeAny (model prog w) A (.builtin "max.loop" ⟨[.ref I,.none,.ref S],[(Ey "default",d)]⟩) R s:=by
 have hSw:S∉wr:=λz=>hSf (W.sub _ z)
 have nm:(toString "max"++toString ".loop" : String) = "max.loop":=by decide
 intro k
 induction k with
 | zero=>
  intro j s vb c hk hj hst hS hb hR;have hin:j=n:=by lia
  refine OQ Kj ?_;rw[Fu FL _];show wpAny _ A.in1 (seqItems? (.ref S) >>= _) _ _ s
  refine Ov (OK hS rfl ?_);show wpAny _ A.in1 (tryCatch (pyNext (.ref I)) _ >>= _) _ _ s
  refine Ov (wpAny_tryCatch (W.done s _ _ (hin▸hst) λh' tk kp=>?_));have hS1:=kp S _ hSw hS;rcases hb with⟨rfl,h0⟩|⟨i,t,hi,rfl,hm⟩
  ·refine Ov (O1 (Ow ?_))
   exact hR d _ tk (.inl ⟨by lia,rfl⟩) λb o q1 q2 e=>kp b o q1 e
  ·show wpAny _ A.in1 (updateSeq S (λ_=>#[]) >>= _) _ _ _
   refine Ov ?_;refine OV hS1 rfl (Ov (O7 (Ow ?_)));exact hR _ _ tk (.inr ⟨i,t,by lia,rfl,λm q=>hm m ⋯⟩) λb o q1 q2 e=>(Fx _ _ (E5 q2)).trans (kp b o q1 e)
 | succ k ih=>
  intro j s vb c hk hj hst hS hb hR;have hlt:j<n:=by lia
  refine OQ Kj ?_;rw[Fu FL _];show wpAny _ A.in1 (seqItems? (.ref S) >>= _) _ _ s
  refine Ov (OK hS rfl ?_);show wpAny _ A.in1 (tryCatch (pyNext (.ref I)) _ >>= _) _ _ s
  refine Ov (wpAny_tryCatch (W.item j s _ _ hlt hst λv h' tk hP st1 kp=>?_));obtain⟨tv,rfl⟩:=hf j v hP;have hS1:=kp S _ hSw hS;have upd1:∀(g:Array Value->Array Value) b (o:Obj),b≠S->h'.get? b=some o->(h'.update S (E6 g)).get? b=some o:=λg b o q e=>(Fx _ _ (E5 q)).trans e
  rcases hb with⟨rfl,h0⟩|⟨i,t,hi,rfl,hm⟩
  ·show wpAny _ A.in1 (updateSeq S (λ_=>#[.int (f j) tv,.int (f j) tv]) >>= _) _ _ _
   refine Ov ?_;refine OV hS1 rfl ?_;rw[nm];obtain⟨c1,hc1⟩:∃c1,(h'.update S (E6 λ_=>#[.int (f j) tv,.int (f j) tv])).get? S=some (OH "list" [Hh (f j) tv,Hh (f j) tv].toArray c1):=⟨_,get?_update_seq hS1 λ_=>#[.int (f j) tv,.int (f j) tv]⟩
   refine Ow ⟨OM FL _,ih (j+1) _ _ c1 ⋯ hlt (W.frame _ _ _ st1 λb q o e=>upd1 _ b o (λz=>hSf (z▸q)) e) hc1 (.inr ⟨j,tv,by lia,rfl,λm q=>?_⟩) λv2 h2 tk2 q2 k2=>?_⟩
   ·have:m=j:=by lia
    rw[this];exact NA _
   ·exact hR v2 h2 tk2 q2 λb o q3 q4 e=>k2 b o q3 q4 (upd1 _ b o q4 (kp b o q3 e))
  ·show wpAny _ A.in1 (tryCatch (OR [.int (f j) tv,.int (f j) tv] (richCompare .Gt (.int (f j) tv) (.int (f i) t) >>= _)) _ >>= _) _ _ _
   refine Ov (wpAny_tryCatch (Oy (Ov (Mx (prog:=prog) (w:=w) (A:=A.in1) (P:=λi v=>∃t,v=.int (f i) t) f (λi v z=>z) j i _ _ _ _ _ ⟨tv,rfl⟩ ⟨t,rfl⟩ ?_))));refine Ov (Oy (OO ?_));refine Ov (O7 (Ow ?_));by_cases hg:f j > f i
   ·simp only[hg,decide_true,if_true]
    refine Ov ?_;refine OV hS1 rfl (Ov (O7 ?_));rw[nm];obtain⟨c1,hc1⟩:∃c1,(h'.update S (E6 λ_=>#[.int (f j) tv,.int (f j) tv])).get? S=some (OH "list" [Hh (f j) tv,Hh (f j) tv].toArray c1):=⟨_,get?_update_seq hS1 λ_=>#[.int (f j) tv,.int (f j) tv]⟩
    refine Ow ⟨OM FL _,ih (j+1) _ _ c1 ⋯ hlt (W.frame _ _ _ st1 λb q o e=>upd1 _ b o (λz=>hSf (z▸q)) e) hc1 (.inr ⟨j,tv,by lia,rfl,λm q=>?_⟩) λv2 h2 tk2 q2 k2=>?_⟩
    ·by_cases e:m=j
     ·rw[e];exact NA _
     ·have:=hm m ⋯;lia
    ·exact hR v2 h2 tk2 q2 λb o q3 q4 e=>k2 b o q3 q4 (upd1 _ b o q4 (kp b o q3 e))
   ·simp only[hg,decide_false,ER,if_false]
    refine Ov (O7 ?_);rw[nm];refine Ow ⟨OM FL _,ih (j+1) _ _ c ⋯ hlt st1 hS1 (.inr ⟨i,t,by lia,rfl,λm q=>?_⟩) λv2 h2 tk2 q2 k2=>?_⟩
    ·by_cases e:m=j
     ·rw[e];lia
     ·exact hm m ⋯
    ·exact hR v2 h2 tk2 q2 λb o q3 q4 e=>k2 b o q3 q4 (kp b o q3 e)
theorem kC (a v:Value):argsOk "max" ⟨[a],[(Ey "default",v)]⟩:=by unfold argsOk;kernel_rfl
theorem wH{s:Shared}{d:Value}(f:Nat->Int)(hh:A.handled=none)(hl:s.heap.IsList l its.toArray)(hf:∀(i:Nat) (v:Value),its[i]? = some v->∃t,v=.int (f i) t)
  (h:∀v h' tk,C4 f d v its.length->(∀b o,s.heap.get? b=some o->h'.get? b=some o)->Q v { s with heap:=h',toks:=tk }) :
  wpAny (model prog w) A (call (.builtin "max") [.ref l] [(Ey "default",d)]) Q E s:=by
 have nm:(toString "max"++toString ".loop" : String) = "max.loop":=by decide
 have hll:l<s.heap.objs.size:=by obtain⟨_,e,_⟩:=id hl;exact D2 e
 refine kmk_tree PySem.F.kind_max PySem.F.plain_max PySem.F.entry_max (kC _ _) ?_;show wpAny _ A.in1 (IU "max" ["key","default"] 0 ⟨[],[(Ey "default",d)]⟩ >>= _) _ _ s
 refine Ov (wpAny_of_eq (show IU "max" ["key","default"] 0 ⟨[],[(Ey "default",d)]⟩=pure [none,some d]from rfl) ?_);refine Ov (Ow ?_);refine Ov (O5 hl ?_);refine Ov (wpAny_newList ?_ (Ec _));rw[nm];have hS:(s.heap.push { cls:=.type "list_iterator",data:=.fields #[.ref l,.int 0 0] }).objs.size=s.heap.objs.size+1:=size_push' ..;have W:=L6 (prog:=prog) (w:=w) (A:=A.in1) hh s.heap.objs.size l (Eh hll) its.toArray;have ez:its.toArray.size=its.length:=D9 ..;rw[ez]at W;have hll1:((s.heap.push { cls:=.type "list_iterator",data:=.fields #[.ref l,.int 0 0] }).push (OH "list" #[] 0)).IsList l its.toArray:=by
  obtain⟨o,e,r⟩:=hl;exact⟨o,DV _ (DV _ e),r⟩
 have hf1:∀(i:Nat) (v:Value),its.toArray[i]? = some v->∃t,v=.int (f i) t:=λi v hv=>hf i v (by simpa using hv)
 refine Ow ⟨OM FL _,qB f W hf1 (S:=(s.heap.push { cls:=.type "list_iterator",data:=.fields #[.ref l,.int 0 0] }).objs.size) ?_ its.length 0 _ [] 0 ⋯ (Ec _) ⟨⟨_,DV _ (Ea _ rfl),rfl,rfl⟩,hll1⟩ (Ea _ rfl) (.inl ⟨rfl,rfl⟩) λv h' tk q kp=>?_⟩
 ·rw[hS]
  intro z;simp only[Eb,EC,or_false]at z;rcases z with z|z
  ·exact absurd z (JA _)
  ·rw[<-z]at hll;exact absurd hll (HV (Nv _))
 ·refine h v h' tk q λb o e=>kp b o ?_ ?_ (DV _ (DV _ e))
  ·intro z
   have e2:b=s.heap.objs.size:=by simpa using z
   exact absurd (e2▸D2 e) (E9 _)
  ·rw[hS]
   have:=D2 e;exact Eh (FY this)
end
end HT
namespace L2
open PySem PySem.Spec PyProof.Rows PySem.W
section
variable{X:Cx}
theorem wI:QIx X Bi:=⟨ux⟩
theorem uO:QC X (.builtin "ord") (λxs H Q=>∃x,xs=[.str x]/\x.length=1/\Q (.int (x.cps.getD 0 0:Nat)) H):=⟨rP⟩
theorem dZ:QC X (.builtin "len") (λxs H Q=>∃z,xs=[.str z]/\z.length<=Ox/\Q (.int z.length) H):=⟨j7⟩
theorem jL (hg:Gl X x) (hm:X.mg x=some u) (r:RelV v u) (hd:(x == ("__debug__" : Str))=false:=by decide):QE X (.Name x pos) (tC v):=⟨u9 hg hm r hd⟩
def Its(z:Str):It:=⟨λi _=>i<z.cps.size,λi H x H'=>H'=H/\∃c,z.cps[i]? = some c/\x=.str ⟨#[c]⟩,λi _=>i=z.cps.size⟩
theorem mX {w:World}{K:DU}{T:String}(hT:["enumerate","zip","dict_itemiterator","dict_reverseitemiterator","odict_iterator","itertools.zip_longest","itertools.pairwise"].contains T=false) (it:Addr) (z:Str) (t:Tok)
  (W:∀A:Around,A.handled=none->Walks P w A it [it] [it] z.cps.size (SignAt z) (λi h=>h.IsStrIter it T z t i))
  (hself:∀(A:Around) (i:Nat) (s:Shared) (Q:Value->Shared->Prop) (E:Value->Shared->Prop),s.heap.IsStrIter it T z t i->Q (.ref it) s->wpAny (model P w) A (pyIter (.ref it)) Q E s) :
  Turn P w K tg (Its z) [it] it (λi h=>h.IsStrIter it T z t i) where
 mem:=by simp
 obj:=λi h st b hb=>by
  have e:b=it:=by simpa using hb
  subst e;obtain⟨o,e,c,d⟩:=st;exact⟨o,e,λv q=>by rw[d]at q;cases q⟩
 keep:=λi h h' st k=>by
  obtain⟨o,e,r⟩:=st;exact⟨o,k it (by simp) o e,r⟩
 item:=by
  intro X hP hw hK hc i pins s σ H E I hf st hg;subst hP hw hK;obtain⟨f0,f1,f2,f3,f4,f5⟩:=hf it (by simp);refine(W X.A (I.ok.hd hc)).item i s _ _ hg st λv h' tk hv st' kk=>?_
  obtain⟨c,u,hcc,rfl⟩:=hv;have I1:Inv X pins σ H { s with heap:=h',toks:=tk }:=I.turned (λb o hb e=>kk b o (by simpa using hb) e) f0 f1 f3 f4 f5;obtain⟨o,e,cl,d⟩:=id st';exact⟨_,rfl,nD (s:={ s with heap:=h',toks:=tk }) e cl d hT ⟨.str ⟨#[c]⟩,H,I1,⟨u,rfl⟩,⟨rfl,c,hcc,rfl⟩,st',λb hb=>(hf b hb).1⟩⟩
 done:=by
  intro X hP hw hK hc i pins s σ H E I hf st hg;subst hP hw hK;obtain⟨f0,f1,f2,f3,f4,f5⟩:=hf it (by simp);have e:i=z.cps.size:=hg;subst e;exact(W X.A (I.ok.hd hc)).done s _ _ st λh' tk kk=>⟨rfl,I.turned (λb o hb e=>kk b o (by simpa using hb) e) f0 f1 f3 f4 f5⟩
 self:=λA i s Q E st h=>hself A i s Q E st h
def C5(te:TE):TI:=λσ H R=>te σ H λx H1=>∃z,x=.str z/\R (Its z) H1
theorem zB{te:TE}(hl:QE X e te):QI X tg e (C5 te):=by
 refine⟨λpins s σ H R I h=>?_⟩;refine thn (hl.out pins s σ H _ I h) λv s1 ⟨x,H1,I1,r1,q1⟩=>?_
 obtain⟨z,rfl,q⟩:=q1;obtain⟨t,rfl⟩:=r1;have fin:∀(T:String) (o:Obj),(s1.heap.push o).IsStrIter s1.heap.objs.size T z t 0->Turn X.prog X.w X.K tg (Its z) [s1.heap.objs.size] s1.heap.objs.size (λi h=>h.IsStrIter s1.heap.objs.size T z t i)->
   PIE X pins σ tg R (.ref s1.heap.objs.size) { s1 with heap:=s1.heap.push o }:=by
  intro T o h0 hT;refine⟨s1.heap.objs.size,[s1.heap.objs.size],_,_,H1,rfl,I1.kept (t':=s1.toks) λb ob e=>DV _ e,hT,h0,λb hb=>?_,q⟩;have e:b=s1.heap.objs.size:=by simpa using hb
  subst e;exact I1.fpOk (DY _) (I1.hok.fresh (DY _))
 cases ha:z.cps.all (· < 128)
 ·exact wpAny_pyIter_wide ha (fin "str_iterator" _ ⟨_,Ea _ rfl,rfl,rfl⟩ (mX (by decide) _ z t (λA hh=>Walks.strWide hh _ z t) λA i s Q E st h=>wpAny_pyIter_striter_wide st h))
 ·exact wpAny_pyIter_ascii ha (fin "str_ascii_iterator" _ ⟨_,Ea _ rfl,rfl,rfl⟩ (mX (by decide) _ z t (λA hh=>Walks.strAscii hh _ z t) λA i s Q E st h=>wpAny_pyIter_striter_ascii st h))
theorem B3{H:Hp}{te:TE}{R:It->Hp->Prop}(h:te σ H λx H1=>∃z,x=.str z/\R (Its z) H1):C5 te σ H R:=h
variable{o e:Expr}{to:TE}{t:TA}{apos cpos:Pos}
def zC(K:DU)(d:Int)(t:TA):TE:=λσ H Q=>t σ H λvs H1=>∃(l:Addr) (ns:List Int),vs=[.ref l]/\SqL K H1 l (ns.map Of)/\∀m:Int,(ns=[]/\m=d\/m∈ns/\∀a∈ns,a<=m)->Q (.int m) H1
theorem qC {K:DU}{p kpos cp:Pos}{d:Int}(hc:X.calm=true) (hg:Gl X "max") (hm:X.mg "max" = none) (ha:QA X [e] t) (hn:bS e=true:=by rfl) (hK:X.K=K:=by rfl):QE X (.Call (.Name "max" p) [e] [⟨some "default",.Constant (.int d) j cp,kpos⟩] pos) (zC K d t):=by
 subst hK;refine⟨λpins s σ H Q I h=>?_⟩;refine O3 (de I hg hm (by decide +kernel:bootBuiltins "max" = some (.builtin "max")) ?_);have he1:starEach [e] X.env=[(false,eval e X.env)]:=aM hn;refine callWith_kw (thn (ha.out pos pins s σ H _ I h) λus s1 hu=>?_) (by rw[he1];rfl) (by rw[he1];rfl);obtain⟨vs,H1,I1,r1,l,ns,rfl,hq,q⟩:=hu;obtain⟨u,rfl,ru⟩:=eD r1;cases ru;refine zA (wpAny_Constant_int ?_);obtain⟨its,rv,pl,hz⟩:=I1.list hq;have hi:=cB rv;have hl:its.length=ns.length:=hi.length;refine HT.wH (λi=>ns.getD i 0) (I.ok.hd hc) (s:={ s1 with toks:=s1.toks+1 }) pl.isList (λi v hv=>?_) λv h' tk hmx kp=>?_
 ·obtain⟨t1,e1⟩:=HT.wz hi (i:=i) (D6.mp hv).1
  rw[DS,hv]at e1;exact⟨t1,e1⟩
 ·have I2:Inv X pins σ H1 { s1 with heap:=h',toks:=tk }:=I1.kept (t':=tk) kp
  rcases hmx with⟨h0,rfl⟩|⟨i,t1,hi1,rfl,hm1⟩
  ·exact⟨.int d,H1,I2,⟨_,rfl⟩,q d (.inl ⟨List.eq_nil_of_length_eq_zero ⋯,rfl⟩)⟩
  ·refine⟨.int (ns.getD i 0),H1,I2,⟨t1,rfl⟩,q _ (.inr ⟨?_,λa ha=>?_⟩)⟩
   ·rw[DS,DR ⋯]
    exact D1 _
   ·obtain⟨m,hm2,rfl⟩:=Gn.mp ha
    have:=hm1 m ⋯;dsimp only at this;rw[DS (l:=ns) (i:=m),DR hm2]at this;exact this
theorem B4{K:DU}{d:Int}{H:Hp}{Q:VK}(h:t σ H λvs H1=>∃(l:Addr) (ns:List Int),vs=[.ref l]/\SqL K H1 l (ns.map Of)/\∀m:Int,(ns=[]/\m=d\/m∈ns/\∀a∈ns,a<=m)->Q (.int m) H1):zC K d t σ H Q:=h
end
section
variable{X:Cx}
def C6:R2:=λx y H Q=>∃i j,x=.str i/\y=.str j/\Q (.bl (decide (i.cps.toList<j.cps.toList))) H
theorem wJ:QOp X (OC .Lt) C6:=⟨oX⟩
end
theorem C7{i j:Str}{H:Hp}{Q:VK}(h:Q (.bl (decide (i.cps.toList<j.cps.toList))) H):C6 (.str i) (.str j) H Q:=⟨i,j,rfl,rfl,h⟩
theorem qD(z b m:Nat):dg z b (m+1)=((z / b ^ m % b:Nat):Int)::dg z b m:=by
 unfold dg;rw[Kk,Ez,ED];congr 1;apply Eo;intro j hj;have:=EF.mp hj;show((z / b ^ (m+1 - 1 - (j+1)) % b:Nat):Int)=_
 rw[show m+1 - 1 - (j+1)=m - 1 - j by lia]
theorem uP{b:Nat}(hb:2<=b)(z y:Nat):∀m,HT.cM (dg z b m) (dg y b m)=decide (z % b ^ m<y % b ^ m)
 | 0=>by simp[dg,HT.eU,Nat.mod_one]
 | m+1=>by
  rw[qD,qD,HT.ck,uP hb z y m];have hp:0<b ^ m:=Ke ⋯;have ez:z % b ^ (m+1)=z % b ^ m+b ^ m*(z / b ^ m % b):=by rw[Im,NB]
  have ey:y % b ^ (m+1)=y % b ^ m+b ^ m*(y / b ^ m % b):=by rw[Im,NB]
  rw[ez,ey];have h1:z % b ^ m<b ^ m:=Jr _ hp;have h2:y % b ^ m<b ^ m:=Jr _ hp;generalize z / b ^ m % b=q at *;generalize y / b ^ m % b=r at *;generalize z % b ^ m=u at *;generalize y % b ^ m=v at *;generalize b ^ m=p at *;by_cases e:q=r
  ·subst e
   rw[if_pos rfl];congr 1;apply propext;constructor<;>intro h<;>lia
  ·rw[if_neg ⋯]
   congr 1;apply propext;constructor
   ·intro h
    have h3:q+1<=r:=by lia
    have h4:p*(q+1)<=p*r:=Iz p h3;rw[LB,LC]at h4;lia
   ·intro h
    apply FS;intro g;have h3:r+1<=q:=by lia
    have h4:p*(r+1)<=p*q:=Iz p h3;rw[LB,LC]at h4;lia
theorem Spelt.lex{ns:List Int}(h:Spelt ns b zs m)(hb:2<=b){x y:Int}{z w:Nat}(hx:ns[i]? = some x)(hy:ns[j]? = some y)(hz:zs[i]? = some z)(hw:zs[j]? = some w):
  HT.cM (dg z b m) (dg w b m)=decide (x<y):=by
 obtain⟨h1,h2⟩:=h.at hb hx hz;obtain⟨h3,h4⟩:=h.at hb hy hw;rw[uP hb,LR h1,LR h3];obtain⟨lo,l1,l2⟩:∃lo,lo∈ns/\∀y∈ns,lo<=y:=by
  rcases h with⟨rfl,_,_⟩|⟨lo,hi,q1,_,q3,_⟩
  ·simp at hx
  ·exact⟨lo,q1,λy hy=>(q3 y hy).1⟩
 have e1:=h2 lo l1 l2;have e2:=h4 lo l1 l2;congr 1;apply propext;constructor<;>intro h<;>lia
theorem qE{tb:List (Int×Nat)}(hb:∀z∈tb,1<=z.2/\z.2<=60){z w:Int×Nat}{x y:Int}(hz:tb[i]? = some z)(hw:tb[j]? = some w)(hx:(bP tb)[i]? = some x)(hy:(bP tb)[j]? = some y):
  x<y↔z.1*(w.2:Int)<w.1*(z.2:Int):=by
 unfold bP at hx hy;rw[DX,hz]at hx;rw[DX,hw]at hy;have ex:z.1*((dF (tb.map (·.2)) / z.2:Nat):Int)=x:=Er hx;have ey:w.1*((dF (tb.map (·.2)) / w.2:Nat):Int)=y:=Er hy;clear hx hy;have hzm:=Ew hz;have hwm:=Ew hw;have d1:z.2∣dF (tb.map (·.2)):=mz (D4.mpr ⟨z,hzm,rfl⟩);have d2:w.2∣dF (tb.map (·.2)):=mz (D4.mpr ⟨w,hwm,rfl⟩);have hL:0<dF (tb.map (·.2)):=mB λb h=>by
  obtain⟨z,hz,rfl⟩:=D4.mp h;exact hb z hz
 have p1:=(hb z hzm).1;have p2:=(hb w hwm).1;generalize dF (tb.map (·.2))=L at *;obtain⟨k,rfl⟩:=d1;obtain⟨l,hl⟩:=d2;rw[JN _ ⋯]at ex;rw[hl,JN _ ⋯]at ey;subst ex ey;have hk:0<k:=JO hL;have hl0:0<l:=JO (hl▸hL);have hc:(z.2:Int)*(k:Int)=(w.2:Int)*(l:Int):=by rw[<-GJ,<-GJ,hl]
 have zp:(0:Int)<z.2:=by lia
 have wp:(0:Int)<w.2:=by lia
 have kp:(0:Int)<k:=by lia
 have hzk:(0:Int)<(z.2:Int)*(k:Int):=LD zp kp
 -- both sides times z.2*w.2
 have e1:z.1*(k:Int)*((z.2:Int)*(w.2:Int))=z.1*(w.2:Int)*((z.2:Int)*(k:Int)):=by
  simp only[Mz,Nh,Lv]
 have e2:w.1*(l:Int)*((z.2:Int)*(w.2:Int))=w.1*(z.2:Int)*((z.2:Int)*(k:Int)):=by
  rw[hc];simp only[Mz,Nh,Lv]
 constructor
 ·intro h
  have:=IV h (LD zp wp);rw[e1,e2]at this;exact Jf this (K3 hzk)
 ·intro h
  have:=IV h hzk;rw[<-e1,<-e2]at this;exact Jf this (K3 (LD zp wp))
theorem uQ:∀(a b:List Nat) (m:Nat),(∀c∈a,97<=c)->(∀c∈b,97<=c)->a.length<=m->b.length<=m->
  HT.cM (a.map (λc=>((c:Nat):Int) - 96)++Ef (m - a.length) 0) (b.map (λc=>((c:Nat):Int) - 96)++Ef (m - b.length) 0)=decide (a<b)
 | [],[],m,_,_,_,_=>by
  have e:∀n,HT.cM (Ef n (0:Int)) (Ef n 0)=false:=λn=>by
   induction n with
   | zero=>rfl
   | succ n ih=>rw[Fe,HT.ck,if_pos rfl];exact ih
  simp only[Ik,Gc];rw[e];exact(decide_eq_false (List.lt_irrefl _)).symm
 | [],c::b,m,_,hb,_,hm=>by
  obtain⟨k,rfl⟩:∃k,m=k+1:=⟨m - 1,by simp at hm;lia⟩
  have:=hb c (Es ..);show HT.cM (Ef (k+1) 0) (((c:Int) - 96)::_)=_
  rw[Fe,HT.ck,if_neg ⋯,decide_eq_true ⋯];exact(decide_eq_true (List.nil_lt_cons c b)).symm
 | c::a,[],m,ha,_,hm,_=>by
  obtain⟨k,rfl⟩:∃k,m=k+1:=⟨m - 1,by simp at hm;lia⟩
  have:=ha c (Es ..);show HT.cM (((c:Int) - 96)::_) (Ef (k+1) 0)=_
  rw[Fe,HT.ck,if_neg ⋯,decide_eq_false ⋯];exact(decide_eq_false (λh=>nomatch h)).symm
 | c::a,d::b,m,ha,hb,h1,h2=>by
  obtain⟨k,rfl⟩:∃k,m=k+1:=⟨m - 1,by simp at h1;lia⟩
  have ih:=uQ a b k (λx h=>ha x (En _ h)) (λx h=>hb x (En _ h)) (by simpa using h1) (by simpa using h2);have e1:k+1 - (c::a).length=k - a.length:=by simp
  have e2:k+1 - (d::b).length=k - b.length:=by simp
  rw[e1,e2,Ez,Ez,HY,HY,HT.ck];by_cases e:c=d
  ·subst e
   rw[if_pos rfl,ih];congr 1;apply propext;rw[Kt];constructor
   ·exact λh=>.inr ⟨rfl,h⟩
   ·rintro(h|⟨_,h⟩)
    ·exact absurd h (E9 _)
    ·exact h
  ·rw[if_neg ⋯]
   congr 1;apply propext;rw[Kt];constructor
   ·intro h;exact .inl ⋯
   ·rintro(h|⟨h,_⟩)
    ·lia
    ·exact absurd h e
end L2
namespace HT
open PySem PyProof.Rows PySem.W L2
def RawD(h:Heap)(d:Addr)(es:Array DictEntry)(ep:Nat):Prop:=∃o,h.get? d=some o/\o.ExactDict/\o.data=.dict es ep
theorem RawD.at{g:Heap}{d:Addr}{es:Array DictEntry}(x:RawD h d es ep)(k:∀o,h.get? d=some o->g.get? d=some o):RawD g d es ep:=by
 obtain⟨o,e,r⟩:=x;exact⟨o,k o e,r⟩
noncomputable abbrev dy (e:DictEntry):Obj:={ cls:=.type "tuple",data:=.seq #[e.key,e.val] }
noncomputable abbrev cC (own fl ok ov:Value) (d:Addr) (i n ep:Nat):Obj:={ cls:=.type "dict_itemiterator",dict:=none,data:=.fields #[own,fl,.ref d,.int i 0,.int n 0,.int ep 0,ok,ov],slots:=#[] }
def Ri(h:Heap)(it d S:Addr)(i n ep:Nat):Prop:=∃own fl ok ov,h.get? it=some (cC own fl ok ov d i n ep)/\(own=.none/\fl=.bool false\/∃(a:Addr) (b:Bool) (oa:Obj),own=Pc a/\fl=.bool b/\h.get? a=some oa/\a≠it/\a≠S)
theorem Ri.at{g:Heap}{it d:Addr}(x:Ri h it d S i n ep)(k:∀b o,b≠S->h.get? b=some o->g.get? b=some o)(hI:it≠S):Ri g it d S i n ep:=by
 obtain⟨own,fl,ok,ov,e,c⟩:=x;refine⟨own,fl,ok,ov,k _ _ hI e,?_⟩;rcases c with c|⟨a,b,oa,e1,e2,e3,e4,e5⟩
 ·exact .inl c
 ·exact .inr ⟨a,b,oa,e1,e2,k _ _ e5 e3,e4,e5⟩
section
variable{prog:Program}{w:World}{A:Around}{E:Value->Shared->Prop}{s:Shared}
theorem tH{it d:Addr}{es:Array DictEntry}{x:DictEntry}{Q:Option Value->Shared->Prop}(hi:Ri s.heap it d S i es.size ep)(hS:S<s.heap.objs.size)(hD:RawD s.heap d es ep)(hx:es[i]? = some x)
  (h:∀g,Ri g it d S (i+1) es.size ep->g.get? s.heap.objs.size=some (dy x)->(∀b o,b≠it->s.heap.get? b=some o->g.get? b=some o)->Q (some (.ref s.heap.objs.size)) { s with heap:=g }) :
  wpAny (model prog w) A (pyNext (.ref it)) Q E s:=by
 obtain⟨h0,gn,dr,tk,os⟩:=s;obtain⟨own,fl,ok,ov,hit,hown⟩:=hi;obtain⟨o,ho,_,hd⟩:=hD;have ty:MA ⟨h0,gn,dr,tk,os⟩ (.ref it) "dict_itemiterator":=⟨_,hit,rfl⟩;have itl:it<h0.objs.size:=D2 hit;unfold pyNext;refine Ov (wpAny_attempt (OE (name:=Ey "__next__") ty Fl (OG Fl ty Ho ?_ (Hg _))));refine Ov (Ow (Ov (Ov ?_)))
 first|refine Ov (OL ty (Ow ?_))|refine Ov (OT ty (Ow ?_))
 refine Ov (wpAny_fieldsOf hit rfl ?_);simp only[show GT "dict_itemiterator" = true by decide,if_true];show wpAny _ _ (if(Ep d == EN)=true then _ else _) _ _ _
 rw[if_neg (show ¬((Ep d == EN)=true)from Ei)];refine Ov (Ow (Ov (wpAny_dictEntries ho hd ?_)));rw[if_neg (by simp)];refine Ov (Ow (Ov (wpAny_dictEpoch ho hd ?_)));rw[if_neg (by simp)];refine Ow ?_;simp only[show ¬((i:Int)<0)from by lia,if_false,E3,hx];refine Ov ?_
 first|refine Ov (OL ty (Ow ?_))|refine Ov (OT ty (Ow ?_))
 refine Ov (wpAny_isOneOf_itemiter ty ?_);show wpAny _ _ (setField (.ref it) 3 (Pc ((i:Int)+1)) >>= _) _ _ ⟨h0,gn,dr,tk,os⟩
 refine Ov (OF hit (by simp) λh1 f1 sb1=>?_);have sb1:FK it h0 h1:=sb1;have f1:h1.get? it=some (cC own fl ok ov d (i+1) es.size ep):=by
  have e:((i+1:Nat):Int)=(i:Int)+1:=by lia
  unfold cC;rw[e];simpa [Pc]using f1
 have ty1:MA ⟨h1,gn,dr,tk,os⟩ (.ref it) "dict_itemiterator":=⟨_,f1,rfl⟩;refine Ov (Oy (Ov (wpAny_isOneOf_itemiter ty1 (Ov (wpAny_isOneOf_itemiter ty1 ?_)))));show wpAny _ _ (Ia (.ref it) 6 x.key x.val) _ _ ⟨h1,gn,dr,tk,os⟩
 unfold Ia;refine Ov (wpAny_newTuple ?_);have f2:(h1.push (dy x)).get? it=some (cC own fl ok ov d (i+1) es.size ep):=DV _ f1;have ez:h1.objs.size=h0.objs.size:=sb1.1;have t2:(h1.push (dy x)).get? h0.objs.size=some (dy x):=by rw[<-ez];exact Ea _ rfl
 have k2:∀b o,b≠it->h0.get? b=some o->(h1.push (dy x)).get? b=some o:=λb o nb e=>DV _ (sb1.extBut b o nb e)
 show wpAny _ _ (Ht (.ref it) >>= _) _ _ ⟨h1.push (dy x),gn,dr,tk,os⟩
 rw[ez];generalize h1.push (dy x)=h2 at f2 t2 k2;refine Ov ?_;unfold Ht;have nit:h0.objs.size≠it:=EU itl;rcases hown with⟨rfl,rfl⟩|⟨a,b,oa,rfl,rfl,ha,hai,haS⟩
 ·refine Ov (OA f2 rfl (x:=.none) rfl (Ow ?_))
  simp only[if_true];refine Ov (OA f2 rfl (x:=ok) rfl (Ov (OA f2 rfl (x:=ov) rfl ?_)));refine Ov (OF f2 (by simp) λh3 f3 sb3=>?_);have sb3:FK it h2 h3:=sb3;have f3:h3.get? it=some (cC .none (.bool false) x.key ov d (i+1) es.size ep):=f3;refine Ov (OF f3 (by simp) λh4 f4 sb4=>?_);have sb4:FK it h3 h4:=sb4;have f4:h4.get? it=some (cC .none (.bool false) x.key x.val d (i+1) es.size ep):=f4;refine Ov (OF f4 (by simp) λh5 f5 sb5=>?_);have sb5:FK it h4 h5:=sb5;have f5:h5.get? it=some (cC (Pc h0.objs.size) (.bool false) x.key x.val d (i+1) es.size ep):=f5;refine Ov (OF f5 (by simp) λh6 f6 sb6=>?_);have sb6:FK it h5 h6:=sb6;have f6:h6.get? it=some (cC (Pc h0.objs.size) (.bool false) x.key x.val d (i+1) es.size ep):=f6;have k6:∀b o,b≠it->h2.get? b=some o->h6.get? b=some o:=λb o nb e=>sb6.extBut b o nb (sb5.extBut b o nb (sb4.extBut b o nb (sb3.extBut b o nb e)))
  refine Ov (O7 (Ow (Ow ⟨_,rfl,Ow (h h6 ?_ (k6 _ _ nit t2) λb o nb e=>k6 b o nb (k2 b o nb e))⟩)));exact⟨_,_,_,_,f6,.inr ⟨h0.objs.size,false,_,rfl,rfl,k6 _ _ nit t2,nit,EU hS⟩⟩
 ·have ha2:h2.get? a=some oa:=k2 a oa hai ha
  refine Ov (OA f2 rfl (x:=Pc a) rfl ?_);show wpAny _ _ (loadIfAlive ((a:Int).toNat) >>= _) _ _ _
  rw[E3];refine Ov (kdx_alive ha2 ?_);simp only[Option.isNone_some,ER,if_false];refine Ov (OA f2 rfl (x:=.bool b) rfl ?_);have fin:∀h3:Heap,h3.get? it=some (cC (Pc a) (.bool true) ok ov d (i+1) es.size ep)->FK it h2 h3->Q (some (.ref h0.objs.size)) ⟨h3,gn,dr,tk,os⟩:=λh3 f3 sb3=>
   h h3 ⟨_,_,_,_,f3,.inr ⟨a,true,oa,rfl,rfl,sb3.extBut _ _ hai ha2,hai,haS⟩⟩ (sb3.extBut _ _ nit t2) λc o nb e=>sb3.extBut c o nb (k2 c o nb e)
  cases b with
  | true=>
   rw[if_neg (show ¬((Gk true != Gk true)=true)from Ei)];refine Ow ?_;simp only[ER,if_false];exact Ow (Ow ⟨_,rfl,Ow (fin h2 f2 (Lo _ _))⟩)
  | false=>
   rw[if_pos (show(Gk false != Gk true)=true from rfl)];refine Ov (OF f2 (by simp) λh3 f3 sb3=>Ow ?_);simp only[ER,if_false];exact Ow (Ow ⟨_,rfl,Ow (fin h3 f3 sb3)⟩)
theorem wK{it d:Addr}{es:Array DictEntry}{Q:Option Value->Shared->Prop}(hh:A.handled=none)(hi:Ri s.heap it d S i es.size ep)(hD:RawD s.heap d es ep)(hx:es[i]? = none)
  (h:∀g,Kb it s.heap g->Q none { s with heap:=g }):wpAny (model prog w) A (pyNext (.ref it)) Q E s:=by
 obtain⟨own,fl,ok,ov,hit,_⟩:=hi;obtain⟨o,ho,_,hd⟩:=hD;have ty:s.TypeIs (.ref it) "dict_itemiterator":=⟨_,hit,rfl⟩;unfold pyNext;refine Ov (wpAny_attempt (OE (name:=Ey "__next__") ty Fl (OG Fl ty Ho ?_ (Hg _))));refine Ov (Ow (Ov (Ov ?_)))
 first|refine Ov (OL ty (Ow ?_))|refine Ov (OT ty (Ow ?_))
 refine Ov (wpAny_fieldsOf hit rfl ?_);simp only[show GT "dict_itemiterator" = true by decide,if_true];show wpAny _ _ (if(Ep d == EN)=true then _ else _) _ _ s
 rw[if_neg (show ¬((Ep d == EN)=true)from Ei)];refine Ov (Ow (Ov (wpAny_dictEntries ho hd ?_)));rw[if_neg (by simp)];refine Ov (Ow (Ov (wpAny_dictEpoch ho hd ?_)));rw[if_neg (by simp)];refine Ow ?_;simp only[show ¬((i:Int)<0)from by lia,if_false,E3,hx];refine Ov ?_
 first|refine Ov (OL ty (Ow ?_))|refine Ov (OT ty (Ow ?_))
 show wpAny _ _ (setField (.ref it) 2 .none >>= _) _ _ s
 refine Ov (wpAny_setField hit rfl (by simp) ?_);show wpAny _ _ (newExc (.type "StopIteration") [] >>= _) _ _ _
 refine Ov ?_;simp only[newExc,newTuple];refine Ov (OB ?_ (by size_fits));refine Ov (m:=firstArgMember _ _) (wpAny_of_eq (a:=EN) (by first|rfl|(simp only[firstArgMember];rfl)) (OB ?_ (by size_fits)));simp only[raiseNew];refine Ov (wpAny_handled ?_);rw[show A.in1.handled=none from hh];refine Ov (Ow (wpAny_throw ?_));refine Ov (wpAny_isInstance (T:="StopIteration") (b:=true) ⟨_,Ea _ rfl,rfl⟩ isSubtype_stop ?_);exact Ow (h _ (((Iw ..).extBut.push _).push _))
def lG(es:Array DictEntry)(lo:Addr)(h:Heap)(as:List Addr):Prop:=(∀a∈as,lo<a)/\as.Nodup/\∀(j:Nat) (a:Addr),as[j]? = some a->∃x,es[j]? = some x/\h.get? a=some (dy x)
theorem tI{I d:Addr}{es:Array DictEntry}{R:Result->Shared->Prop}(hh:A.handled=none)(hSI:S<I)(hdS:d≠S)(hdI:d≠I)(hn:es.size<=Ox)(res:Value){h0:Heap}
  (hR:∀g tk acc c as,(∀b o,b≠S->b≠I->h0.get? b=some o->g.get? b=some o)->g.get? S=some (OH "list" acc c)->as.length=es.size->lG es I g as->acc.toList=as.map Ep->R (.ok (.ret res)) { s with heap:=g,toks:=tk }) :
  ∀(k i:Nat) (h:Heap) (tk c:Nat) (acc:Array Value) (as:List Addr),es.size - i=k->i<=es.size->Ri h I d S i es.size ep->RawD h d es ep->(∀b o,b≠S->b≠I->h0.get? b=some o->h.get? b=some o)->
   h.get? S=some (OH "list" acc c)->acc.toList=as.map Ep->as.length=i->lG es I h as->I<h.objs.size->(∀a∈as,a<h.objs.size)->
   codeAny (model prog w) A (.builtin "list.extend.loop" ⟨[.ref S,.ref I,res],[]⟩) R { s with heap:=h,toks:=tk }:=by
 have ne:S≠I:=Eh hSI;intro k
 induction k with
 | zero=>
  intro i h tk c acc as hk hi hst hD kp hS hacc hal hP hIs hlt;refine OQ Js ?_;rw[Fu FU _];show wpAny _ A.in1 (pyNext (.ref I) >>= _) _ _ _
  refine Ov (wK (s:={ s with heap:=h,toks:=tk }) (A:=A.in1) hh hst hD (by simp;lia) λg eb=>?_);refine Ow (hR g tk acc c as (λb o q1 q2 e=>eb b o q2 (kp b o q1 q2 e)) (eb S _ ne hS) ⋯ ⟨hP.1,hP.2.1,λj a hj=>?_⟩ hacc);obtain⟨x,e1,e2⟩:=hP.2.2 j a hj;exact⟨x,e1,eb a _ (EU (hP.1 a (Ew hj))) e2⟩
 | succ k ih=>
  intro i h tk c acc as hk hi hst hD kp hS hacc hal hP hIs hlt;have hl:i<es.size:=by lia
  have hsz:acc.size=i:=by rw[<-E8,hacc,DT,hal]
  have hSl:S<h.objs.size:=D2 hS;refine OQ Js ?_;rw[Fu FU _];show wpAny _ A.in1 (pyNext (.ref I) >>= _) _ _ _
  refine Ov (tH (s:={ s with heap:=h,toks:=tk }) hst hSl hD (x:=es[i]) (by simp[hl]) λg st1 t1 k1=>?_);dsimp only at t1 k1 ⊢;have hS1:=k1 S _ ne hS;have up:∀b o,b≠S->g.get? b=some o->(g.update S (E6 (·.push (Ep h.objs.size)))).get? b=some o:=λb o nb e=>(Fx _ _ (E5 nb)).trans e
  have nS:h.objs.size≠S:=EU hSl;have t2:=up _ _ nS t1;show wpAny _ A.in1 (updateSeq S (·.push (Ep h.objs.size)) >>= _) _ _ _
  refine Ov (OV hS1 rfl (Ow ⟨OM FU _,ih (i+1) _ tk _ (acc.push (Ep h.objs.size)) (as++[h.objs.size]) ⋯ hl (st1.at up (E5 ne)) (hD.at λo e=>up d o hdS (k1 d o hdI e))
   (λb o q1 q2 e=>up b o q1 (k1 b o q2 (kp b o q1 q2 e))) (Ga _ hS1 rfl) (by rw[Hz,hacc,D0];rfl) (by rw[D8,hal];rfl) ⟨λa ha=>?_,?_,λj a hj=>?_⟩ ?_ λa ha=>?_⟩) (by rw[hsz];lia) (by show(acc.push (Ep h.objs.size)).size<=Ox+1;rw[Array.size_push,hsz];lia))
  ·rcases Et.mp ha with q|q
   ·exact hP.1 a q
   ·rw[D5.mp q];exact hIs
  ·refine Jl.mpr ⟨hP.2.1,FJ _ _,λa ha b hb e=>?_⟩
   rw[D5.mp hb]at e;exact absurd (e▸hlt a ha) (E9 _)
  ·by_cases q:j<as.length
   ·rw[Ek q]at hj
    obtain⟨x,e1,e2⟩:=hP.2.2 j a hj;have ga:=hP.1 a (Ew hj);exact⟨x,e1,up a _ (EU (Ir hSI ga)) (k1 a _ (EU ga) e2)⟩
   ·have q2:=(D6.mp hj).1
    have ej:j=as.length:=by simp at q2;lia
    subst ej;have ea:h.objs.size=a:=by simpa using hj
    subst ea;exact⟨es[i],by rw[hal];simp[hl],t2⟩
  ·exact Ir hIs (D2 t2)
  ·rcases Et.mp ha with q|q
   ·exact Ir (hlt a q) (D2 t2)
   ·rw[D5.mp q];exact D2 t2
theorem tJ{v d:Addr}{es:Array DictEntry}(hv:s.heap.IsItemsView v d)(hD:RawD s.heap d es ep)
  (hQ:Q (.ref s.heap.objs.size) { s with heap:=s.heap.push (cC .none (.bool false) .none .none d 0 es.size ep) }):wpAny (model prog w) A (pyIter (.ref v)) Q E s:=by
 obtain⟨ov,hov,_,hdv⟩:=id hv;obtain⟨o,ho,_,hd⟩:=hD;refine wpAny_pyIter_slot hv.typeIs IH (OG IH hv.typeIs PySem.F.entry_dict_items_iter ?_ (PySem.F.args_dict_items_iter_1 _));unfold Builtin.«dict_items.__iter__»;refine Ov (Ow (Ov ?_));unfold MO;refine Ov (OA hov hdv (x:=.ref d) rfl (Ow (Ov ?_)));unfold Me;refine Ov (wpAny_dictEntries ho hd (Ov (wpAny_dictEpoch ho hd ?_)));simp only[show GT "dict_itemiterator" = true by decide,if_true];refine OB (Ow ⟨_,rfl,"dict_itemiterator",_,⟨_,Ea _ rfl,rfl⟩,Fl.lookup,?_⟩) (by simp only[sizeOk,Hu,D9,D8,Ej,E2,OW];lia);unfold cC at hQ;simpa [Pc,Hu]using hQ
theorem lH{v d:Addr}{es:Array DictEntry}{Q:List Value->Shared->Prop}(hh:A.handled=none)(hv:s.heap.IsItemsView v d)(hD:RawD s.heap d es ep)(hn:es.size<=Ox)
  (h:∀g tk as,(∀b o,s.heap.get? b=some o->g.get? b=some o)->as.length=es.size->lG es s.heap.objs.size g as->Q (as.map Ep) { s with heap:=g,toks:=tk }):wpAny (model prog w) A (collect (.ref v)) Q E s:=by
 have hvl:v<s.heap.objs.size:=by obtain⟨_,e,_⟩:=hv;exact D2 e
 have hdl:d<s.heap.objs.size:=by obtain⟨_,e,_⟩:=hD;exact D2 e
 unfold collect;refine Ov (wpAny_runValue (OQ PySem.F.entry_proto_collect ?_));rw[Fu PySem.F.plain_proto_collect _];show wpAny _ A.in1 (newList [] >>= λl=>again (.builtin "list.__iadd__" ⟨[l,.ref v],[]⟩)) _ _ s
 refine Ov (OB ?_);refine Ow ⟨OM JP _,OQ PySem.F.entry_list_iadd ?_⟩;rw[Fu JP _];show wpAny _ A.in1 (IW (.ref s.heap.objs.size) (.ref v) (.ref s.heap.objs.size)) _ _ _
 -- the list at S,the iterator behind it
 have key:∀(h1:Heap) (c1 tk:Nat),(∀b o,b≠s.heap.objs.size->((s.heap.push (OH "list" #[] 0)).push (cC .none (.bool false) .none .none d 0 es.size ep)).get? b=some o->h1.get? b=some o)->h1.get? s.heap.objs.size=some (OH "list" #[] c1)->
   codeAny (model prog w) A (.builtin "list.extend.loop" ⟨[.ref s.heap.objs.size,.ref (s.heap.push (OH "list" #[] 0)).objs.size,.ref s.heap.objs.size],[]⟩)
    (λq s'=>∃g tk acc c as,q=.ok (.ret (.ref s.heap.objs.size))/\s'={ s with heap:=g,toks:=tk }/\(∀b o,s.heap.get? b=some o->g.get? b=some o)/\g.get? s.heap.objs.size=some (OH "list" acc c)/\as.length=es.size/\lG es s.heap.objs.size g as/\acc.toList=as.map Ep) { s with heap:=h1,toks:=tk }:=by
  intro h1 c1 tk hk1 hS1;have eI:(s.heap.push (OH "list" #[] 0)).objs.size=s.heap.objs.size+1:=size_push' ..;have hI:=hk1 (s.heap.push (OH "list" #[] 0)).objs.size _ (by rw[eI];exact JA _) (Ea _ rfl);have hd1:RawD h1 d es ep:=hD.at λo e=>hk1 d o (Eh hdl) (DV _ (DV _ e))
  refine tI (s:=s) (h0:=s.heap) (ep:=ep) hh (by rw[eI];exact Jz _) (Eh hdl) (by rw[eI];exact Eh (FY hdl)) hn _ (λg tk2 acc c as kp tS hl hP hacc=>?_)
   es.size 0 h1 tk c1 #[] [] ⋯ (Ec _) ⟨_,_,_,_,hI,.inl ⟨rfl,rfl⟩⟩ hd1 (λb o q1 q2 e=>hk1 b o q1 (DV _ (DV _ e))) hS1 rfl rfl ⟨λa ha=>(nomatch ha),IG,λj a hj=>by simp at hj⟩ (D2 hI) (λa ha=>nomatch ha)
  exact⟨g,tk2,acc,c,as,rfl,rfl,λb o e=>kp b o (Eh (D2 e)) (by rw[eI];exact Eh (FY (D2 e))) e,tS,hl,⟨λa ha=>Ir (by rw[eI];exact Jz _) (hP.1 a ha),hP.2⟩,hacc⟩
 have fin:∀s',(∃g tk acc c as,s'={ s with heap:=g,toks:=tk }/\(∀b o,s.heap.get? b=some o->g.get? b=some o)/\g.get? s.heap.objs.size=some (OH "list" acc c)/\as.length=es.size/\lG es s.heap.objs.size g as/\acc.toList=as.map Ep)->
   wpAny (model prog w) A (match Ep s.heap.objs.size with
   | Ep a=>do
    match(<-load a).data with
     | M8 xs _=>pure xs.toList
     | _=>unsupported "internal:collect"
   | _=>unsupported "internal:collect") Q E s':=by
  rintro s' ⟨g,tk,acc,c,as,rfl,kp,tS,hl,hP,hacc⟩;show wpAny _ A (load s.heap.objs.size >>= _) _ _ _
  refine Ov (wpAny_load tS (Ow ?_));show Q acc.toList _
  rw[hacc];exact h g tk as kp hl hP
 have hv1:(s.heap.push (OH "list" #[] 0)).IsItemsView v d:=by
  obtain⟨o,e,r⟩:=hv;exact⟨o,DV _ e,r⟩
 have hD1:RawD (s.heap.push (OH "list" #[] 0)) d es ep:=hD.at λo e=>DV _ e
 have hS0:(s.heap.push (OH "list" #[] 0)).get? s.heap.objs.size=some (OH "list" #[] 0):=Ea _ rfl;show wpAny _ _ _ _ _ { s with heap:=s.heap.push (OH "list" #[] 0) }
 unfold IW;refine Ov (O4 (T:="dict_items") (s:={ s with heap:=s.heap.push (OH "list" #[] 0) }) hv1.typeIs ?_);have n1:Gx (.ref s.heap.objs.size) (.ref v)=false:=by simp[Gx,EU hvl]
 simp only[n1,show(GW "dict_items" == GW "list")=false by decide,show(GW "dict_items" == GW "tuple")=false by decide,Mu,ER,if_false];refine Ov (tJ (s:={ s with heap:=s.heap.push (OH "list" #[] 0) }) hv1 hD1 ?_);have hS1:=DV (cC .none (.bool false) .none .none d 0 es.size ep) hS0;refine Ov (Oy (kdx_hint (let⟨o,ho,hc,_⟩:=hv1;⟨o,DV _ ho,hc⟩) ?_));have fin2:∀(q:Result) s',(∃g tk acc c as,q=.ok (.ret (.ref s.heap.objs.size))/\s'={ s with heap:=g,toks:=tk }/\(∀b o,s.heap.get? b=some o->g.get? b=some o)/\g.get? s.heap.objs.size=some (OH "list" acc c)/\as.length=es.size/\lG es s.heap.objs.size g as/\acc.toList=as.map Ep)->q=.ok (.ret (.ref s.heap.objs.size))/\∃g tk acc c as,s'={ s with heap:=g,toks:=tk }/\(∀b o,s.heap.get? b=some o->g.get? b=some o)/\g.get? s.heap.objs.size=some (OH "list" acc c)/\as.length=es.size/\lG es s.heap.objs.size g as/\acc.toList=as.map Ep:=by
  rintro q s' ⟨g,tk,acc,c,as,e,r⟩;exact⟨e,g,tk,acc,c,as,r⟩
 refine wpAny_ite_split (λ_=>?_) (λ_=>Ow ⟨OM FU _,codeAny_mono (key _ 0 s.toks (λb o _ e=>e) hS1) λq s' hq=>by obtain⟨rfl,r⟩:=fin2 q s' hq;exact fin s' r⟩);refine Ov (O1 (Ov ?_));show wpAny _ _ (updateSeq s.heap.objs.size (·.push .none) >>= λ_=>updateSeq s.heap.objs.size (·.pop)) _ _ _
 refine Ov (OV hS1 rfl ?_);have hS2:=Ga (E6 (·.push EN)) hS1 rfl;refine OV (hz:=by seq_fits) hS2 rfl ?_;have hS3:=Ga (E6 (·.pop)) hS2 rfl;refine Ow ⟨OM FU _,codeAny_mono (key _ _ s.toks (λb o nb e=>?_) hS3) λq s' hq=>by obtain⟨rfl,r⟩:=fin2 q s' hq;exact fin s' r⟩;exact(Fx _ _ (E5 nb)).trans ((Fx _ _ (E5 nb)).trans e)
end
section
variable{prog:Program}{w:World}{A:Around}{E:Value->Shared->Prop}{s:Shared}
theorem qF{d:Addr}{es:Array DictEntry}(hD:RawD s.heap d es ep)(hd:(d == OS)=false)
  (h:Q (.ref s.heap.objs.size) { s with heap:=s.heap.push { cls:=.type "dict_items",data:=.fields #[.ref d] } }):wpAny (model prog w) A (call (.builtin "dict.items") [.ref d]) Q E s:=by
 obtain⟨o,ho,hx,_⟩:=hD;have ty:s.TypeIs (.ref d) "dict":=⟨o,ho,hx.1⟩;refine OG JQ ty PySem.F.entry_dict_items ?_ (PySem.F.args_dict_items_1 _);unfold Builtin.«dict.items»;refine Ov ?_;unfold NM;refine Ov (wpAny_notOrdered_dict ty ?_);show wpAny _ _ (pure d) _ _ s
 refine Ow ?_;show wpAny _ _ (Ku d >>= _) _ _ s
 unfold Ku;rw[if_neg (by rw[hd];exact Ei)];exact Ov (Ow (Ov (OB (Ow ⟨_,rfl,h⟩))))
end
end HT
namespace L2
open PySem PySem.Spec PyProof.Rows PySem.W
noncomputable def dj:Hp->List (Addr×HO)->Hp
 | H,[]=>H
 | H,(a,o)::r=>upd (dj H r) a o
theorem fC{H:Hp}{b:Addr}:∀{ts:List (Addr×HO)},(∀p∈ts,p.1≠b)->dj H ts b=H b
 | [],_=>rfl
 | (a,o)::r,h=>by
  show upd (dj H r) a o b=H b
  rw[aB (E5 (h (a,o) (Es ..)))];exact fC λp hp=>h p (En _ hp)
theorem kD{H:Hp}{b:Addr}{u:HO}:∀{ts:List (Addr×HO)},(ts.map (·.1)).Nodup->(b,u)∈ts->dj H ts b=some u
 | [],_,h=>nomatch h
 | (a,o)::r,hn,h=>by
  rw[Ez,Fc]at hn;show upd (dj H r) a o b=some u
  rcases Eb.mp h with e|e
  ·cases e;exact aj
  ·have:b≠a:=λz=>hn.1 (by rw[<-z];exact D4.mpr ⟨(b,u),e,rfl⟩)
   rw[aB this];exact kD hn.2 e
theorem ig{H:Hp}{b:Addr}{u:HO}:∀{ts:List (Addr×HO)},dj H ts b=some u->(b,u)∈ts\/((∀p∈ts,p.1≠b)/\H b=some u)
 | [],h=>.inr ⟨λp hp=>(nomatch hp),h⟩
 | (a,o)::r,h=>by
  by_cases e:b=a
  ·subst e
   rw[show dj H ((b,o)::r) b=some o from aj]at h;cases h;exact .inl (Es ..)
  ·have h2:dj H r b=some u:=by rw[<-h];show _=upd (dj H r) a o b;rw[aB e]
   rcases ig h2 with q|⟨q1,q2⟩
   ·exact .inl (En _ q)
   ·refine .inr ⟨λp hp=>?_,q2⟩
    rcases Eb.mp hp with z|z
    ·rw[z];exact E5 e
    ·exact q1 p z
section
variable{X:Cx}{pins:List (Addr×Obj)}{σ:St}{H:Hp}{s:Shared}{h':Heap}
theorem Inv.laidAll{ts:List (Addr×HO)}(I:Inv X pins σ H s)(k:∀b u,s.heap.get? b=some u->h'.get? b=some u)(hp:∀p∈ts,s.heap.objs.size<=p.1)(new:∀p∈ts,ObjOk X.prog X.w (dj H ts) h' p.1 p.2):
  Inv X pins σ (dj H ts) { s with heap:=h',toks:=t' }:=by
 have fr:∀p∈ts,H p.1=none:=λp q=>I.hok.fresh (hp p q)
 have old:∀b u,H b=some u->dj H ts b=some u:=λb u e=>by rw[fC λp q z=>by rw[<-z,fr p q]at e;cases e];exact e
 refine I.un (H':=dj H ts) ⟨λb u q _ _ _=>k b u q,λb u q _ _ _=>⟨u.slots,k b u q⟩,λb u q n _=>?_,λb u q _=>⟨u,k b u q⟩,λb xs q=>old _ _ q,λb u xs q=>old _ _ q,λb ps q=>⟨#[],by rw[old _ _ q];simp⟩⟩ λb u e=>?_
 ·rw[fC λp hm z=>absurd (D2 q) (by rw[<-z];exact HV (hp p hm))];exact n
 ·rcases ig e with q|⟨_,q⟩
  ·exact new (b,u) q
  ·exact(I.hok b u q).stay (λc v _ z=>k c v z) (λc z=>old _ _ z) λc xs z=>old _ _ z
end
theorem qG{α β:Type}{R:α->β->Prop}{xs:List α}{ys:List β}(h:Paired R xs ys):∀{j:Nat}{x:α}{y:β},xs[j]? = some x->ys[j]? = some y->R x y:=by
 induction h with
 | nil=>intro j x y h1 _;simp at h1
 | cons h t ih=>
  intro j x y h1 h2;cases j with
  | zero=>simp at h1 h2;rw[<-h1,<-h2];exact h
  | succ j=>exact ih (by simpa using h1) (by simpa using h2)
noncomputable def gc(r:List Int):List Key:=r.map IC
theorem lI(r:List Int):(gc r).map kV=r.map Of:=by
 unfold gc;rw[ED];rfl
theorem jM{a b:List Int}(h:gc a=gc b):a=b:=by
 unfold gc at h;exact Le (λx y e=>Nm e) |>.mp h
section
variable{X:Cx}{o e f:Expr}{td ty tx:TE}{pos apos cpos p:Pos}
theorem mY:QE X (.Dict [] [] pos) qw:=⟨tw⟩
theorem jN (hu:X.A.units+1<cLine) (ho:QE X o td) (he:QE X e ty) (hf:QE X f tx) (hbase:attributeBase o ("get" : Str) X.env (eval o X.env)=eval o X.env:=by rfl) (hline:(apos.endLine == cpos.line)=true:=by rfl) (hn:bS e=true:=by rfl) (hn2:bS f=true:=by rfl) :
  QE X (.Call (.Attribute o "get" apos) [e,f] [] cpos) (qx td ty tx):=by
 have e1:starEach [e,f] X.env=[(false,eval e X.env),(false,eval f X.env)]:=by rw[aM hn,aM hn2];rfl
 exact⟨tD hu ho.out he.out hf.out ⟨hbase,by rw[e1];rfl,hline,by rw[e1];rfl⟩⟩
end
end L2
namespace HT
open PySem PyProof.Rows PySem.W L2
section
variable{prog:Program}{w:World}{A:Around}{E:Value->Shared->Prop}{s:Shared}
end
section
variable{prog:Program}{w:World}{A:Around}{E:Value->Shared->Prop}{s:Shared}
end
section
variable{prog:Program}{w:World}{A:Around}{E:Value->Shared->Prop}{s:Shared}
end
section
variable{prog:Program}{w:World}{A:Around}{E:Value->Shared->Prop}{s:Shared}
end
end HT
namespace L2
open PySem PySem.Spec PyProof.Rows PySem.W
section
variable{X:Cx}{e:Expr}{t:TA}{p p2 pos pos2:Pos}{pins:List (Addr×Obj)}{σ:St}{H:Hp}{s:Shared}
end
section
variable{X:Cx}
end
theorem AE{H:Hp}{Q:VK}(h:∀p,H p=none->Q (.ref p) (upd H p (.dT []))):qw σ H Q:=h
theorem AF{td ty tx:TE}{H:Hp}{Q:VK}(h:td σ H λx H1=>∃a,x=.ref a/\IsD H1 a/\ty σ H1 λy H2=>tx σ H2 λz H3=>∃o,DGet H3 a y o/\Q (o.getD z) H3):qx td ty tx σ H Q:=h
theorem B5{td ty tv:TE}{H:Hp}(h:tv σ H λv H1=>td σ H1 λx H2=>ty σ H2 λy H3=>∃a H4,x=.ref a/\DPut H3 a y v H4/\D.nx σ H4):wB td ty tv D σ H:=h
noncomputable abbrev dTf(q:List Int×Int):List Key×V:=(gc q.1,Of q.2)
def Cn(bs:List (List Int))(ps:List (List Int×Int)):Prop:=(ps.map (·.1)).Nodup/\(∀r,r∈ps.map (·.1)↔r∈bs)/\∀p∈ps,p.2=(bs.count p.1:Int)
theorem Cn.nil:Cn [] []:=⟨IG,λr=>by simp,λp h=>nomatch h⟩
theorem ij{r:List Int}:∀{ps:List (List Int×Int)},(r∉ps.map (·.1)->jH (ps.map dTf) (gc r)=none)/\∀n,(ps.map (·.1)).Nodup->(r,n)∈ps->jH (ps.map dTf) (gc r)=some (.int n)
 | []=>⟨λ_=>rfl,λn _ h=>nomatch h⟩
 | p::ps=>by
  have ih:=ij (r:=r) (ps:=ps);refine⟨λh=>?_,λn hn h=>?_⟩
  ·rw[Ez,fw (λe=>h (by rw[<-jM e];exact Es ..))]
   exact ih.1 λz=>h (En _ z)
  ·rw[Ez,Fc]at hn
   rcases Eb.mp h with e|e
   ·subst e;rw[Ez,gC rfl]
   ·have ne:¬(dTf p).1=gc r:=λz=>hn.1 (by rw[jM z];exact D4.mpr ⟨_,e,rfl⟩)
    rw[Ez,fw ne];exact ih.2 n hn.2 e
theorem Cn.step{bs:List (List Int)}{ps:List (List Int×Int)}(h:Cn bs ps)(r:List Int):∃(m:Int) (ps':List (List Int×Int)),(jH (ps.map dTf) (gc r)).getD (.int 0)=.int m/\jI (ps.map dTf) (gc r) (.int (m+1))=ps'.map dTf/\Cn (bs++[r]) ps'/\ps'.length<=ps.length+1:=by
 obtain⟨h1,h2,h3⟩:=h;by_cases hr:r∈ps.map (·.1)
 ·obtain⟨⟨r',n⟩,hm,rfl⟩:=D4.mp hr
  have hv:=(ij (r:=r') (ps:=ps)).2 n h1 hm;refine⟨n,ps.map λp=>if p.1=r' then(p.1,n+1)else p,by rw[hv];rfl,?_,⟨?_,λq=>?_,λp hp=>?_⟩,by simp⟩
  ·unfold jI
   rw[if_pos (by rw[gD,hv];rfl),ED,ED];apply Eo;intro p hp;by_cases e:p.1=r'
   ·simp[MB,dTf,e]
   ·have:¬gc p.1=gc r':=λz=>e (jM z)
    simp[MB,dTf,e,this]
  ·have:(ps.map λp=>if p.1=r' then(p.1,n+1)else p).map (·.1)=ps.map (·.1):=by
    rw[ED];apply Eo;intro p _;show(if p.1=r' then(p.1,n+1)else p).1=p.1;split<;>rfl
   rw[this];exact h1
  ·have:(ps.map λp=>if p.1=r' then(p.1,n+1)else p).map (·.1)=ps.map (·.1):=by
    rw[ED];apply Eo;intro p _;show(if p.1=r' then(p.1,n+1)else p).1=p.1;split<;>rfl
   rw[this,h2 q,Et,D5];constructor
   ·exact .inl
   ·rintro(z|rfl)
    ·exact z
    ·exact(h2 _).mp hr
  ·obtain⟨p0,hp0,rfl⟩:=D4.mp hp
   have c0:=h3 p0 hp0;by_cases e:p0.1=r'
   ·have e5:=h3 _ hm
    simp only[e,if_true];have e6:n=(bs.count r':Int):=e5;rw[FZ,Jt,e6];lia
   ·rw[if_neg e,FZ,c0]
    have:[r'].count p0.1=0:=FB.mpr (by simpa using e);rw[this];simp
 ·have hv:=(ij (r:=r) (ps:=ps)).1 hr
  have hb:r∉bs:=λz=>hr ((h2 r).mpr z)
  refine⟨0,ps++[(r,1)],by rw[hv];rfl,?_,⟨?_,λq=>?_,λp hp=>?_⟩,by simp⟩
  ·rw[sZ _ hv,D0];rfl
  ·rw[D0,Jl]
   exact⟨h1,FJ _ _,λa ha b hb' e=>by
    have e2:b=r:=D5.mp hb';exact hr (by rw[<-e2,<-e];exact ha)⟩
  ·rw[D0,Et,h2 q,Et];exact Oa
  ·rcases Et.mp hp with z|z
   ·have ne:p.1≠r:=λe=>hr (by rw[<-e];exact D4.mpr ⟨p,z,rfl⟩)
    have:[r].count p.1=0:=FB.mpr (by simpa using ne);rw[FZ,this,h3 p z];simp
   ·rw[D5.mp z]
    show(1:Int)=_
    rw[FZ,Jt,FB.mpr hb];rfl
def B6(K:Frag)(P:Params)(d:Addr)(kfs:List (Str×Addr)):Prop:=
 ∃(ts:List Tok) (ep:Nat),ts.length=kfs.length/\K.lookup d=some ⟨.type "dict",none,.dict ((kfs.zip ts).map λp=>(⟨FR P p.1.1,.str p.1.1 p.2,.ref p.1.2⟩:DictEntry)).toArray ep,#[]⟩
def DA(d:Addr)(kfs:List (Str×Addr)):R2:=λx y H Q=>∃z f,x=.ref d/\y=.str z/\kfs.lookup z=some f/\Q (.ref f) H
theorem mZ{P:Params}{z:Str}{f:Addr}:∀(kfs:List (Str×Addr)) (ts:List Tok),ts.length=kfs.length->kfs.lookup z=some f->
  (((kfs.zip ts).map λp=>(⟨FR P p.1.1,.str p.1.1 p.2,.ref p.1.2⟩:DictEntry)).find? λe=>F0 z e.key).map (·.val)=some (.ref f)
 | [],_,_,h=>by cases h
 | (y,g)::kfs,[],hl,_=>by cases hl
 | (y,g)::kfs,t::ts,hl,h=>by
  rw[FN,Ez,Gg];rw[Gz]at h;by_cases e:z=y
  ·subst e
   rw[beq_self_eq_true]at h;cases h;have:F0 z (IJ z t)=true:=by simp[F0]
   simp only[this];rfl
  ·rw[beq_false_of_ne e]at h
   have:F0 z (IJ y t)=false:=by
    simp only[F0]
    first
     | exact beq_false_of_ne e
     | exact beq_false_of_ne (E5 e)
     | simpa using e
     | simpa using E5 e
   simp only[this];exact mZ kfs ts (by simpa using hl) h
section
variable{X:Cx}
theorem zD{d:Addr}{kfs:List (Str×Addr)}(hd:B6 X.K X.w.params d kfs):QIx X (DA d kfs):=by
 refine⟨λvalue slice pins s σ H x y v u Q I rx ry h hs=>?_⟩;obtain⟨z,f,rfl,rfl,hl,q⟩:=h;cases rx;obtain⟨t,rfl⟩:=ry;obtain⟨ts,ep,hts,hK⟩:=hd;have ho:=I.kIn _ _ hK;have hm:s.heap.MapOf (HN X.prog X.w) d (λk=>findBy (HN X.prog X.w).is ((kfs.zip ts).map λp=>(⟨FR X.w.params p.1.1,.str p.1.1 p.2,.ref p.1.2⟩:DictEntry)).toArray k):=by
  refine⟨_,_,ep,ho,⟨rfl,rfl,rfl⟩,rfl,λe he=>?_,λ_=>rfl⟩;obtain⟨p,hp,rfl⟩:=D4.mp (List.mem_toArray.mp he);exact⟨p.1.1,by simp[HN,F0],rfl⟩
 refine subscriptTail_builtinR (x:=.ref f) hm.typeIs slot_dict_getitem.lookup (wpAny_getItem_of (Q:=λr s'=>r=.ref f/\EP X pins σ Q r s') (knd:=HN X.prog X.w) (k:=z) (by simp[HN,F0]) hm (v:=.ref f) ?_ ⟨rfl,.ref f,H,I.tok _,rfl,q⟩) hs;show findBy _ _ _=_
 unfold findBy;rw[List.find?_toArray];exact mZ kfs ts hts hl
def uR(R:V->Sp->Prop)(E:XK)(tf:TE)(t:TA):TE:=λσ H Q=>tf σ H λv H1=>∃sp,R v sp/\t σ H1 λvs H2=>sp vs H2 Q E
theorem m4{R:V->Sp->Prop}{E:XK}{tf:TE}{t:TA}{p:Pos}{es:List Expr}(hf:QE X (.Name x p) tf)
  (hR:∀v sp,R v sp->∃f fd ps CX k,v=.ref f/\FnOk X.prog X.w X.K X.mg X.base CX k f fd ps sp/\Room k X.A/\Gu X.K (.ref f)=true/\Binds X.K fd ps []/\iN CX X E)
  (ha:QA X (e::es) t) (hn:(e::es).all bS=true:=by rfl):QE X (.Call (.Name x p) (e::es) [] pos) (uR R E tf t):=by
 rw[HL,EH]at hn;refine⟨λpins s σ H Q I h=>?_⟩;refine O3 (thn (hf.out pins s σ H _ I h) λu s1 hu=>?_);obtain⟨v,H1,I1,ru,sp,hr,q⟩:=hu;obtain⟨f,fd,ps,CX,k,rfl,F,hro,hk,hb,hx⟩:=hR v sp hr;cases ru;refine KW (h₀:=X.base) I1.ok.mod.kin hk (thn (ha.out pos pins s1 σ H1 _ I1 q) λus s2 hu=>?_) (aM hn.1) (eX hn.2);obtain⟨vs,H2,I2,r,q⟩:=hu;exact⟨I2.kIn,uv (dvs:=[]) (ds:=[]) F hro hb .nil hx I2 r (by rw[E1];exact q)⟩
theorem AG{R:V->Sp->Prop}{E:XK}{tf:TE}{t:TA}{H:Hp}{Q:VK}(h:tf σ H λv H1=>∃sp,R v sp/\t σ H1 λvs H2=>sp vs H2 Q E):uR R E tf t σ H Q:=h
def wL(K:Frag):V->List V->Hp->VK->Prop:=λx xs H Q=>∃z l ys,x=.str z/\xs=[.ref l]/\SqL K H l (ys.map Oh)/\(ys.map (·.length)).sum+ys.length*z.length<=16777216/\Q (.str (LS z ys)) H
theorem wM:MtR X "str.join" (wL X.K):=by
 intro pins s σ H x xs v us Q I rx rs h;obtain⟨z,l,ys,rfl,rfl,hq,hs,q⟩:=h;obtain⟨t,rfl⟩:=rx;obtain⟨u,rfl,ru⟩:=eD rs;cases ru;obtain⟨its,rv,pl,hz⟩:=I.list hq;exact join_list pl.isList (i7 (by simpa using rv)) hs λt' k=>⟨.str (LS z ys),H,I.tok k,⟨_,rfl⟩,q⟩
variable{o e:Expr}{to:TE}{t:TA}{apos cpos:Pos}
theorem wN {K:DU}(ho:QE X o to) (ha:QA X [e] t) (hbase:attributeBase o ("join" : Str) X.env (eval o X.env)=eval o X.env:=by rfl) (hline:(apos.endLine == cpos.line)=true:=by rfl) (hn:bS e=true:=by rfl) (hK:X.K=K:=by rfl) :
  QE X (.Call (.Attribute o "join" apos) [e] [] cpos) (tBM K "str" (wL K) to t):=by subst hK;exact⟨mf PySem.F.plainAttrs_str PySem.F.slot_str_join PySem.F.type_str_join wM ho.out ha.out hbase hline hn⟩
end
section
variable{X:Cx}{pins:List (Addr×Obj)}{σ:St}{H:Hp}{s:Shared}
variable{N frs:List Str}{x qual:Str}{ix:List Nat}{scope:Scope}{cl:List (Str×Addr)}{params:Arguments}{body:Expr}
section
variable{te:TE}{t:TA}{p pos kpos lpos:Pos}{e:Expr}{k:Nat}{cc P:Addr}
end
end
end L2
namespace L2
open PySem PySem.Spec PyProof.Rows
section
variable{qs:List (Nat×Nat)}{b:Nat}{st:HW}
end
section
variable{X:Cx}{o e f:Expr}{td ty tx:TE}{pos apos cpos p:Pos}
end
section
variable{X:Cx}{o tg:Expr}{td:TE}{pos apos cpos p:Pos}
end
end L2
namespace HT
open PySem PyProof.Rows PySem.W L2
section
variable{prog:Program}{w:World}{A:Around}{E:Value->Shared->Prop}{s:Shared}
theorem qH:typeLookup (.type "list") "keys" = pure none:=by rw[typeLookup_type,builtinLookup_eq_fast];kernel_rfl
theorem wO {o:Obj}{xs:Array Value}{k:Nat}{Q:Option Value->Shared->Prop}(hx:s.heap.get? a=some o) (hc:o.cls=.type "list") (hdat:o.data=.seq xs k) (hd:o.dict=none) (hA:A.handled=none)
  (h:∀h' tk e,Heap.NewExcOf s.heap h' e "AttributeError"->Q none { s with heap:=h',toks:=tk }):wpAny (model prog w) A (getAttr? (.ref a) "keys") Q E s:=by
 obtain⟨c,dct,dat,sl⟩:=o;simp only at hc hdat hd;subst hc hdat hd;obtain⟨hp,g,d,tk,os⟩:=s;have hT:∀tk',(⟨hp,g,d,tk',os⟩:Shared).TypeIs (.ref a) "list":=λ_=>⟨_,hx,rfl⟩
 have f1:=sub_AttributeError;have f3:=GK.lookup;have f4:=GK.bind (.ref a);have f5:=am_list_getattr_none;unfold getAttr? getAttrBy? getAttrBy
 repeat (any_goals (first | assumption | exact hT _ | ((with_reducible show wpAny _ _ (call (Value.builtin "list.__getattribute__") _ _) _ _ _);refine O6 GK (hT _) am_entry_list_getattribute (PySem.F.args_list_getattribute_2 _ _) (meets_getattribute_miss_list a xs k sl "keys" _ qH (by decide)) ⟨hx,hA,λh' tk' e hx'=>?_⟩) | wp_step))
 obtain⟨t',u',he⟩:=hx'.there;show wpAny _ _ (getattributeRaised _ _ _ _ _ _ _) _ _ _
 unfold getattributeRaised
 repeat (any_goals (first|assumption|wp_step))
 exact h _ _ _ hx'.of
theorem kE:entryFor table "dict.update.loop" = some Builtin.«dict.update.loop»:=entryFor_of_tree (by kernel_rfl)
theorem fD:plainId "dict.update.loop" = true:=by decide +kernel
theorem om{p:Addr}{k v:Value}{Q:List Value->Shared->Prop}(hp:s.heap.IsTuple p #[k,v])(h:Q [k,v] s):wpAny (model prog w) A (Kl (.ref p)) Q E s:=by
 obtain⟨o,ho,hc,n,hd⟩:=hp;unfold Kl;refine Ov (O4 ⟨o,ho,hc⟩ ?_);rw[if_pos (by decide)];exact Ov (OK ho hd (Ow h))
theorem tK{R:Result->Shared->Prop}{I:Addr}{wr:List Addr}{P:Nat->Value->Prop}{St:Nat->Heap->Prop}{rs:List (Key×Value)}{pa:Nat->Addr}(W:Walks prog w A.in1 I fp wr n P St)(hSf:S∉fp)(hn:rs.length=n)(hb:n<=Ox)(hv:∀i v,P i v->v=.ref (pa i)):
  ∀(k i:Nat) (s:Shared),n - i=k->i<=n->St i s.heap->(∀j,j<n->pa j≠S/\pa j∉wr/\∃ku,(bp prog w).is (rs.getD j (.inl 0,.none)).1 ku=true/\s.heap.IsTuple (pa j) #[ku,(rs.getD j (.inl 0,.none)).2])->
   s.heap.DictOf (bp prog w) S (merged [] (rs.take i))->
   (∀g tk,(∀b o,b≠S->b∉wr->s.heap.get? b=some o->g.get? b=some o)->g.DictOf (bp prog w) S (merged [] rs)->R (.ok (.ret .none)) { s with heap:=g,toks:=tk })->
   codeAny (model prog w) A (.builtin "dict.update.loop" ⟨[.ref S,.ref I,Pc i,.none],[]⟩) R s:=by
 have hSw:S∉wr:=λz=>hSf (W.sub _ z)
 have at':∀{h g:Heap}{kvs:List (Key×Value)},h.DictOf (bp prog w) S kvs->(∀o,h.get? S=some o->g.get? S=some o)->g.DictOf (bp prog w) S kvs:=λx e=>let⟨o,es,ep,ho,r⟩:=x;⟨o,es,ep,e _ ho,r⟩
 intro k
 induction k with
 | zero=>
  intro i s hk hi hst hT hS hR;have hin:i=n:=by lia
  subst hin;refine OQ kE ?_;rw[Fu fD _];show wpAny _ A.in1 (pyNext (.ref I) >>= _) _ _ s
  refine Ov (W.done s _ _ hst λg tk kp=>?_);rw[DW ⋯]at hS;exact Ov (Ow (Ow (hR g tk (λb o _ q e=>kp b o q e) (at' hS λo e=>kp S o hSw e))))
 | succ k ih=>
  intro i s hk hi hst hT hS hR;have hlt:i<n:=by lia
  refine OQ kE ?_;rw[Fu fD _];show wpAny _ A.in1 (pyNext (.ref I) >>= _) _ _ s
  refine Ov (W.item i s _ _ hlt hst λv g tk hP st1 kp=>?_);obtain rfl:=hv i v hP;obtain⟨p1,p2,ku,p3,p4⟩:=hT i hlt;have hS1:=at' hS λo e=>kp S o hSw e
  have tup:∀{g':Heap}{x:Addr}{vs:Array Value},s.heap.IsTuple x vs->(∀o,s.heap.get? x=some o->g'.get? x=some o)->g'.IsTuple x vs:=λy e=>let⟨o,ho,r⟩:=y;⟨o,e _ ho,r⟩
  have p4g:g.IsTuple (pa i) #[ku,(rs.getD i (.inl 0,.none)).2]:=tup p4 λo e=>kp _ o p2 e
  refine Ov (Oy ?_);refine Ov (wpAny_tryCatch (om (s:={ s with heap:=g,toks:=tk }) p4g ?_));have hget:rs[i]? = some (rs.getD i (.inl 0,.none)):=by rw[DS,DR ⋯];rfl
  have hsz:(merged [] (rs.take i)).length<=Ox:=by
   have:=merged_length_le ([]:List (Key×Value)) (rs.take i);rw[Ee]at this;simp only[E2]at this;lia
  refine Oy (wpAny_dictSet_pairs (hsz:=hsz) (s:={ s with heap:=g,toks:=tk }) p3 hS1 λg2 hS2 sb=>?_);rw[<-merged_take_succ [] rs i _ hget]at hS2;refine Ow ⟨OM fD _,ih (i+1) _ ⋯ hlt (W.frame _ _ _ st1 λc hc o e=>?_) (λj hj=>?_) hS2 λg3 tk3 k3 hS3=>?_⟩
  ·exact(sb.2 c (λz=>hSf (z▸hc))).trans e
  ·obtain⟨q1,q2,kj,q3,q4⟩:=hT j hj
   exact⟨q1,q2,kj,q3,tup q4 λo e=>(sb.2 _ q1).trans (kp _ o q2 e)⟩
  ·exact hR g3 tk3 (λc o q1 q2 e=>k3 c o q1 q2 ((sb.2 c q1).trans (kp c o q2 e))) hS3
theorem oq{rs:List (Key×Value)}{pa:Nat->Addr}(hh:A.handled=none)(hl:s.heap.IsList l its.toArray)(hdn:∀o,s.heap.get? l=some o->o.dict=none)(hv:∀(i:Nat) v,its[i]? = some v->v=.ref (pa i))(hn:rs.length=its.length)(hb:its.length<=Ox)
  (hT:∀j,j<its.length->∃ku,(bp prog w).is (rs.getD j (.inl 0,.none)).1 ku=true/\s.heap.IsTuple (pa j) #[ku,(rs.getD j (.inl 0,.none)).2])
  (h:∀g tk,g.DictOf (bp prog w) s.heap.objs.size (merged [] rs)->(∀b o,s.heap.get? b=some o->g.get? b=some o)->Q (.ref s.heap.objs.size) { s with heap:=g,toks:=tk }) :
  wpAny (model prog w) A (call (.type "dict") [.ref l]) Q E s:=by
 refine callType_codes (Q₁:=λobj s₁=>obj=.ref s.heap.objs.size/\s₁={ s with heap:=s.heap.push { cls:=.type "dict",data:=.dict #[] } }) PySem.F.kt_called_dict (PySem.F.kt_typeCall_dict_1 _) PySem.F.entry_dict_init (kt_code_dict_new _ ⟨rfl,rfl⟩) ?_;rintro obj s₁ ⟨rfl,rfl⟩;have hnew:(s.heap.push { cls:=.type "dict",data:=.dict #[] }).DictOf (bp prog w) s.heap.objs.size []:=N6 s.heap;refine⟨hnew.typeIs,PySem.F.args_dict_init_2 _ _,?_⟩;obtain⟨ol,hol,hcl,nl,hdl⟩:=id hl;have hol1:(s.heap.push { cls:=.type "dict",data:=.dict #[] }).get? l=some ol:=DV _ hol;have hlS:l<s.heap.objs.size:=D2 hol;unfold Builtin.«dict.__init__»;refine Ov ?_;unfold Ni;refine Ov (wpAny_notOrdered_dict hnew.typeIs ?_);show wpAny _ _ (pure (s.heap.objs.size,[Ep l])) _ _ _
 refine Ow ?_;show wpAny _ _ (JR "dict.__init__" s.heap.objs.size (.ref l) [] .none) _ _ _
 unfold JR;refine Ov (O4 (T:="list") ⟨ol,hol1,hcl⟩ ?_);rw[if_pos (by decide)];refine Ov (wO (s:={ s with heap:=s.heap.push { cls:=.type "dict",data:=.dict #[] } }) hol1 hcl hdl (hdn ol hol) hh λh1 tk1 e1 x1=>?_);rw[if_pos (show(none:Option Value).isNone=true from rfl)];have kp1:∀b o,s.heap.get? b=some o->h1.get? b=some o:=λb o e=>x1.keeps b o (DV _ e)
 have hl1:h1.IsList l its.toArray:=⟨ol,kp1 _ _ hol,hcl,nl,hdl⟩;have hS1:h1.DictOf (bp prog w) s.heap.objs.size []:=let⟨o,es,ep,ho,r⟩:=hnew;⟨o,es,ep,x1.keeps _ _ ho,r⟩;have hSl:s.heap.objs.size<h1.objs.size:=let⟨o,_,_,ho,_⟩:=hS1;D2 ho;have hll:l<h1.objs.size:=D2 (kp1 _ _ hol);refine Ov (O1 ?_);refine Ov (O5 (s:={ s with heap:=h1,toks:=tk1 }) hl1 (Ow ⟨OM fD _,?_⟩));have hh3:A.in1.in1.handled=none:=by simp[hh]
 have ez:its.toArray.size=its.length:=D9 ..;have hSf:s.heap.objs.size∉[h1.objs.size,l]:=by
  intro z;simp only[Eb,EC,or_false]at z;rcases z with z|z
  ·exact absurd z (Eh hSl)
  ·exact absurd z (EU hlS)
 refine tK (pa:=pa) (rs:=rs) (L6 hh3 _ l (Eh hll) its.toArray) hSf (by rw[hn,ez]) (by rw[ez];exact hb) (λi v e=>hv i v (by simpa using e)) (its.toArray.size - 0) 0 _ ⋯ (Ec _) ⟨⟨_,Ea _ rfl,rfl,rfl⟩,hl1.push _⟩ (λj hj=>?_) ?_ λg tk kp hG=>⟨rfl,h g tk hG λb o e=>?_⟩
 ·rw[ez]at hj
  obtain⟨ku,k1,o,ho,k2⟩:=hT j hj;have hlt:=D2 ho;refine⟨Eh hlt,λz=>?_,ku,k1,o,DV _ (kp1 _ _ ho),k2⟩;have e0:pa j=h1.objs.size:=by simpa using z
  rw[e0]at hlt;exact absurd hlt (NJ.mpr (Fv hSl))
 ·obtain⟨o,es,ep,ho,r⟩:=hS1
  exact⟨o,es,ep,DV _ ho,r⟩
 ·have hlt:=D2 e
  exact kp b o (Eh hlt) (λz=>absurd ((by simpa using z:b=h1.objs.size)▸hlt) (NJ.mpr (Fv hSl))) (DV _ (kp1 _ _ e))
end
end HT
namespace L2
open PySem PySem.Spec PyProof.Rows
section
variable{X:Cx}
def zE(K:DU):List V->Hp->VK->Prop:=λxs H Q=>∃(l:Addr) (ps:List Addr) (kvs:List (Key×V)),xs=[.ref l]/\H l=some (.lst (ps.map Ou))/\ps.length=kvs.length/\(∀(i:Nat) p kv,ps[i]? = some p->kvs[i]? = some kv->H p=some (.tup [kV kv.1,kv.2]))/\∀d,H d=none->Q (.ref d) (upd H d (.dK (fx [] kvs)))
theorem tL {K:DU}(hc:X.calm=true) (hK:X.K=K:=by rfl):QC X (.type "dict") (zE K):=by
 refine⟨λpins s σ H xs us Q I r h=>?_⟩;obtain⟨l,ps,kvs,rfl,hl,hlen,hp,q⟩:=h;obtain⟨u,rfl,ru⟩:=eD r;cases ru;obtain⟨hz,its,n,rv,e1⟩:=(show ObjOk X.prog X.w H s.heap l (.lst (ps.map Ou))from I.hok l _ hl);have hil:its.length=kvs.length:=by have:=rv.length;rw[DT]at this;lia
 have hit:∀(i:Nat) v,its[i]? = some v->v=.ref (ps.getD i 0):=λi v e=>by
  have hi:=(D6.mp e).1;have hip:i<ps.length:=by lia
  have e2:(ps.map Ou)[i]? = some (Ou ps[i]):=by rw[DX,DR hip];rfl
  obtain⟨u,hu,ru⟩:=rv.get e2;rw[e]at hu;cases hu;rw[DS,DR hip];exact ru
 have gb:∀i:Nat,∃z:Key×Value,i<kvs.length->(∃ku,(bp X.prog X.w).is z.1 ku=true/\s.heap.IsTuple (ps.getD i 0) #[ku,z.2])/\∀kv,kvs[i]? = some kv->kv.1=z.1/\RelV kv.2 z.2:=λi=>by
  by_cases hi:i<kvs.length
  ·have hip:i<ps.length:=by lia
   obtain⟨_,its2,rv2,pt⟩:=(show ObjOk X.prog X.w H s.heap ps[i] (.tup [kV kvs[i].1,kvs[i].2])from I.hok _ _ (hp i _ _ (DR hip) (DR hi)));cases rv2 with
   | cons r1 rr=>
    cases rr with
    | cons r2 rr=>
     cases rr;rename_i ku vu;refine⟨(kvs[i].1,vu),λ_=>⟨⟨ku,qm r1,?_⟩,λkv e=>?_⟩⟩
     ·rw[DS,DR hip]
      exact pt
     ·rw[DR hi]at e
      cases e;exact⟨rfl,r2⟩
  ·exact⟨(.inl 0,.none),λz=>absurd z hi⟩
 obtain⟨rs,hrl,hrs⟩:∃rs:List (Key×Value),rs.length=kvs.length/\∀i,i<kvs.length->(∃ku,(bp X.prog X.w).is (rs.getD i (.inl 0,.none)).1 ku=true/\s.heap.IsTuple (ps.getD i 0) #[ku,(rs.getD i (.inl 0,.none)).2])/\∀kv,kvs[i]? = some kv->kv.1=(rs.getD i (.inl 0,.none)).1/\RelV kv.2 (rs.getD i (.inl 0,.none)).2:=by
  refine⟨(DZ kvs.length).map λi=>(gb i).choose,by rw[DT,Ff],λi hi=>?_⟩;have e:((DZ kvs.length).map λi=>(gb i).choose).getD i (.inl 0,.none)=(gb i).choose:=by
   rw[DS,DX,EX hi];rfl
  rw[e];exact(gb i).choose_spec hi
 have rel:KV kvs rs:=by
  have go:∀(as:List (Key×V)) (bs:List (Key×Value)),as.length=bs.length->(∀(i:Nat) a b,as[i]? = some a->bs[i]? = some b->a.1=b.1/\RelV a.2 b.2)->KV as bs:=by
   intro as
   induction as with
   | nil=>intro bs h _;cases bs with
    | nil=>exact .nil
    | cons b bs=>cases h
   | cons a as ih=>
    intro bs h g;cases bs with
    | nil=>cases h
    | cons b bs=>exact .cons (g 0 a b rfl rfl) (ih bs (by simpa using h) λi x y e1 e2=>g (i+1) x y e1 e2)
  refine go kvs rs hrl.symm λi a b e1 e2=>?_
  have hi:=(D6.mp e1).1;have:=(hrs i hi).2 a e1;rw[DS,e2]at this;exact this
 refine HT.oq (pa:=λi=>ps.getD i 0) (rs:=rs) (I.ok.hd hc) ⟨_,e1,rfl,n,rfl⟩ (λo e=>by rw[e1]at e;cases e;rfl) hit ⋯ (by have:=rv.length;lia) (λj hj=>(hrs j ⋯).1) λg tk hG kp=>?_
 have hm:=KV.merge rel (Paired.nil:KV [] []);refine⟨.ref s.heap.objs.size,_,I.laid (t':=tk) (o:=.dK (fx [] kvs)) kp (DY _) (uN ?_ ?_ hm hG),rfl,q _ (I.hok.fresh (DY _))⟩
 ·have:=fy kvs []
  have:=rv.length;rw[DT]at this;simp only[E2]at *;rw[DT]at hz;lia
 ·have:=I.big
  exact beq_eq_false_iff_ne.mpr (EU this)
end
section
variable{X:Cx}{N tgs frs:List Str}{ix:List Nat}{scope:Scope}{cl:List (Str×Addr)}{xc:Str}
end
def Par{α:Type}(os:List α):Prop:=∃x∈os,∃y∈os,x≠y
theorem ik{α:Type}{ks os:List α}(hn:ks.Nodup)(hm:∀k,k∈ks↔k∈os):1<ks.length↔Par os:=by
 constructor
 ·intro h
  match ks,hn,hm,h with
  | a::b::r,hn,hm,_=>exact⟨a,(hm a).mp (by simp),b,(hm b).mp (by simp),λe=>by rw[Fc]at hn;exact hn.1 (by simp[e])⟩
 ·rintro⟨x,hx,y,hy,hne⟩
  match ks,hm with
  | [],hm=>exact absurd ((hm x).mpr hx) (by simp)
  | [a],hm=>exact absurd ((D5.mp ((hm x).mpr hx)).trans (D5.mp ((hm y).mpr hy)).symm) hne
  | a::b::r,_=>simp
theorem wQ{α β:Type}{f:α->β}{os:List α}(hf:∀a b,f a=f b->a=b):Par (os.map f)↔Par os:=by
 constructor
 ·rintro⟨x,hx,y,hy,h⟩
  obtain⟨a,ha,rfl⟩:=D4.mp hx;obtain⟨b,hb,rfl⟩:=D4.mp hy;exact⟨a,ha,b,hb,λe=>h (by rw[e])⟩
 ·rintro⟨x,hx,y,hy,h⟩
  exact⟨f x,D4.mpr ⟨x,hx,rfl⟩,f y,D4.mpr ⟨y,hy,rfl⟩,λe=>h (hf _ _ e)⟩
theorem qI{os:List Nat}(h:∀o∈os,o<b):cq (cnt os b)=true↔Par os:=by
 have e:(iB (cnt os b)).length=((DZ b).filter λf=>decide (0<os.count f)).length:=by
  unfold iB cnt;rw[Gf,DT];rfl
 unfold cq;rw[decide_eq_true_iff,e];refine ik (HU.filter _) λk=>?_
 rw[EI,EF,decide_eq_true_iff,La];exact⟨λh=>h.2,λhk=>⟨h k hk,hk⟩⟩
noncomputable def kys:List Nat->List Nat:=λos=>os.foldl (λacc x=>if x∈acc then acc else acc++[x]) []
theorem tM(os:List Nat)(x:Nat):kys (os++[x])=if x∈kys os then kys os else kys os++[x]:=by unfold kys;rw[Lp];rfl
theorem lJ:∀os:List Nat,(kys os.reverse).Nodup/\∀k,k∈kys os.reverse↔k∈os
 | []=>⟨IG,λk=>Oa⟩
 | x::os=>by
  obtain⟨a,b⟩:=lJ os;rw[Jj,tM];split
  ·rename_i h
   exact⟨a,λk=>by rw[b k,Eb];exact⟨.inr,λz=>z.elim (λe=>e▸(b x).mp h) id⟩⟩
  ·rename_i h
   refine⟨Jl.mpr ⟨a,by simp,λy hy z hz e=>h (by rw[<-D5.mp hz,<-e];exact hy)⟩,λk=>?_⟩;rw[Et,D5,Eb,b k];exact⟨λz=>z.elim .inr .inl,λz=>z.elim .inr .inl⟩
theorem il(os:List Nat):(kys os).Nodup:=by have:=(lJ os.reverse).1;rwa [G1]at this
theorem kys_mem{os:List Nat}{k:Nat}:k∈kys os↔k∈os:=by have:=(lJ os.reverse).2 k;rw[G1]at this;rw[this,Ft]
theorem kys_par{os:List Nat}:1<(kys os).length↔Par os:=ik (il os) λ_=>kys_mem
noncomputable def eP(k f:Nat)(g:List (List Nat)):List (List Nat):=g.filter λr=>decide (r.getD k 0=f)
noncomputable def m5(k:Nat)(g:List (List Nat)):List (List (List Nat)):=(kys (bD g k)).map λf=>eP k f g
noncomputable def zF(k:Nat)(G:List (List (List Nat))):List (List (List Nat)):=G.flatMap λg=>(m5 k g).filter λs=>decide (1<s.length)
noncomputable def mvG(k:Nat)(g:List (List Nat)):Int:=if 1<(kys (bD g k)).length then(g.length:Int)else 0
noncomputable def oH(rss:List (List Nat)):Nat->List (List (List Nat))
 | 0=>[rss]
 | k+1=>zF k (oH rss k)
noncomputable def mvL(rss:List (List Nat))(k:Nat):Int:=((oH rss k).map (mvG k)).sum
noncomputable def xM(rss:List (List Nat))(n:Nat):Int:=((DZ n).map (mvL rss)).sum
noncomputable def dN(rss:List (List Nat))(k:Nat)(p:List Nat):List (List Nat):=rss.filter λr=>decide (r.take k=p)
noncomputable def pfx(rss:List (List Nat)):Nat->List (List Nat)
 | 0=>[[]]
 | k+1=>(pfx rss k).flatMap λp=>((kys (bD (dN rss k p) k)).filter λf=>decide (1<(dN rss (k+1) (p++[f])).length)).map λf=>p++[f]
theorem jO(rss:List (List Nat)):∀k,∀p∈pfx rss k,p.length=k
 | 0,p,h=>by rw[D5.mp h];rfl
 | k+1,p,h=>by
  obtain⟨q,hq,hp⟩:=JG.mp h;obtain⟨f,_,rfl⟩:=D4.mp hp;rw[D8,jO rss k q hq];rfl
theorem kF{p:List Nat}{k f w:Nat}(hr:r.length=w)(hk:k<w)(hp:p.length=k):r.take (k+1)=p++[f]↔r.take k=p/\r.getD k 0=f:=by
 have e:r.take (k+1)=r.take k++[r.getD k 0]:=by
  rw[D7,DR ⋯,DS,DR ⋯];rfl
 rw[e];constructor
 ·intro h
  obtain⟨h1,h2⟩:=Mf h (by rw[Ee,hp];lia);exact⟨h1,(KN h2).1⟩
 ·rintro⟨h1,h2⟩;rw[h1,h2]
theorem kG{rss:List (List Nat)}{w k f:Nat}{p:List Nat}(hw:∀r∈rss,r.length=w)(hk:k<w)(hp:p.length=k):dN rss (k+1) (p++[f])=eP k f (dN rss k p):=by
 unfold dN eP;rw[List.filter_filter];refine Jm λr hr=>?_
 rw[<-Bool.decide_and,decide_eq_decide,kF (hw r hr) hk hp];exact⟨λh=>⟨h.2,h.1⟩,λh=>⟨h.2,h.1⟩⟩
theorem m6{rss:List (List Nat)}{w:Nat}(hw:∀r∈rss,r.length=w):∀k,k<=w->oH rss k=(pfx rss k).map (dN rss k)
 | 0,_=>by
  show[rss]=[dN rss 0 []]
  unfold dN;rw[List.filter_eq_self.mpr λr _=>by simp]
 | k+1,hk=>by
  show zF k (oH rss k)=_
  rw[m6 hw k ⋯,pfx,List.map_flatMap];unfold zF;rw[List.flatMap_map];have go:∀(l:List (List Nat)),(∀p∈l,p.length=k)->(l.flatMap λp=>(m5 k (dN rss k p)).filter λs=>decide (1<s.length))=l.flatMap λp=>Nj (dN rss (k+1)) (((kys (bD (dN rss k p) k)).filter λf=>decide (1<(dN rss (k+1) (p++[f])).length)).map λf=>p++[f]):=λl=>by
   induction l with
   | nil=>intro _;rfl
   | cons p l ih=>
    intro hl;rw[Jn,Jn,ih λq hq=>hl q (En _ hq)];congr 1;have hp:=hl p (Es ..);unfold m5;rw[Gf,ED];have e1:∀f,dN rss (k+1) (p++[f])=eP k f (dN rss k p):=λf=>kG hw ⋯ hp
    have e2:(NC ((λs=>decide (1<s.length))∘λf=>eP k f (dN rss k p)) (kys (bD (dN rss k p) k)))=NC (λf=>decide (1<(dN rss (k+1) (p++[f])).length)) (kys (bD (dN rss k p) k)):=Jm λf _=>by rw[e1 f];rfl
    rw[e2];exact Eo λf _=>(e1 f).symm
  exact go _ (jO rss k)
theorem kH{rss:List (List Nat)}:∀k,(pfx rss k).Nodup
 | 0=>by simp[pfx]
 | k+1=>by
  rw[pfx];refine List.pairwise_flatMap.mpr ⟨λp hp=>?_,(kH k).imp_of_mem λ{p q} hp hq hne x hx y hy e=>?_⟩
  ·exact Gj.mpr (((il _).filter _).imp λ{a b} h e=>h (by have:=JS e;exact(KN this).1))
  ·obtain⟨f,_,rfl⟩:=D4.mp hx
   obtain⟨g,_,rfl⟩:=D4.mp hy;exact hne (Mf e (by rw[jO rss k p hp,jO rss k q hq])).1
theorem qJ{rss:List (List Nat)}{w:Nat}(hw:∀r∈rss,r.length=w):∀k,k<=w->∀p:List Nat,p.length=k->1<(dN rss k p).length->p∈pfx rss k
 | 0,_,p,hp,_=>by rw[Fi.mp hp];exact D5.mpr rfl
 | k+1,hk,p,hp,h=>by
  obtain⟨q,f,rfl⟩:∃q f,p=q++[f]:=⟨p.dropLast,p.getLast (λz=>by rw[z]at hp;cases hp),(List.dropLast_concat_getLast _).symm⟩
  have hq:q.length=k:=by rw[D8]at hp;simpa using hp
  have e:=kG (f:=f) hw ⋯ hq;rw[e]at h;have h1:(eP k f (dN rss k q)).length<=(dN rss k q).length:=Ge ..;rw[pfx];refine JG.mpr ⟨q,qJ hw k ⋯ q hq ⋯,D4.mpr ⟨f,EI.mpr ⟨kys_mem.mpr ?_,by rw[e];exact decide_eq_true h⟩,rfl⟩⟩;obtain⟨r,hr⟩:=Iu (show 0<(eP k f (dN rss k q)).length by lia);obtain⟨h2,h3⟩:=EI.mp hr;exact D4.mpr ⟨r,h2,of_decide_eq_true h3⟩
theorem gE:∀{l:List Int},(∀x∈l,x=0)->l.sum=0
 | [],_=>rfl
 | x::l,h=>by rw[EJ,h x (Es ..),gE λy hy=>h y (En _ hy)];rfl
theorem qK{A B:List Int}(h:A.Perm B):A.sum=B.sum:=by
 induction h with
 | nil=>rfl
 | cons x _ ih=>rw[EJ,EJ,ih]
 | swap x y l=>simp only[EJ];lia
 | trans _ _ h1 h2=>exact h1.trans h2
theorem fE{α:Type}[BEq α][LawfulBEq α]{f:α->Int}:∀{A B:List α},A.Nodup->B.Nodup->(∀p,f p≠0->(p∈A↔p∈B))->(A.map f).sum=(B.map f).sum
 | [],B,_,_,h=>by
  rw[gE (l:=B.map f) λx hx=>?_];rfl;obtain⟨p,hp,rfl⟩:=D4.mp hx;exact FS λz=>nomatch (h p z).mpr hp
 | a::A,B,hA,hB,h=>by
  rw[Fc]at hA;by_cases hz:f a=0
  ·rw[Ez,EJ,hz,Hq]
   refine fE hA.2 hB λp hp=>?_
   rw[<-h p hp,Eb];exact⟨.inr,λz=>z.elim (λe=>absurd (e▸hz) hp) id⟩
  ·have ha:a∈B:=(h a hz).mp (Es ..)
   have hp:=KB ha;have hB':=hp.nodup_iff.mp hB;rw[Fc]at hB';have hs:(B.map f).sum=((a::B.erase a).map f).sum:=qK (hp.map f);rw[hs,Ez,Ez,EJ,EJ];congr 1;refine fE hA.2 hB'.2 λp hp'=>?_
   have hq:=h p hp';rw[hp.mem_iff,Eb,Eb]at hq;constructor
   ·intro z
    exact(hq.mp (.inr z)).elim (λe=>absurd (e▸z) hA.1) id
   ·intro z
    exact(hq.mpr (.inr z)).elim (λe=>absurd (e▸z) hB'.1) id
end L2
namespace HT
open PySem PyProof.Rows PySem.W L2
section
variable{prog:Program}{w:World}{A:Around}{E:Value->Shared->Prop}{h:Heap}{g:Array GenState}{d:Drawn}{t:Nat}{os:OsState}
variable{nm q:Str}{C N f:Addr}{bs bm bmB:List Value}{hdct:Bool}{sn:List Str}{sub:List Value}{ab:Bool}{col:Option Bool}{dd:Option Addr}{k0 k1 k2 k3 k5:Option Value}{B Bn newId nid initId inN:String}{bmN:List Value}
end
section
variable{M:Model}{A:Around}{E:Value->Shared->Prop}{env:Env}
variable{nm q:Str}{C N:Addr}{bs bm:List Value}{hdct:Bool}{sn:List Str}{sub:List Value}{ab:Bool}{col:Option Bool}{dd:Option Addr}{k0 k1 k2 k3 k5:Option Value}{newId:String}
end
end HT
namespace L2
open PySem PySem.Spec PyProof.Rows
section
variable{P:Program}{w:World}{K:DU}{mg:Str->Option Value}{base:Heap}{N:List Str}{qual:Str}{scope:Scope}{f:Addr}{cd:Value}{A:Around}{outer:List Env}{s0:Shared}{H0:Hp}{E:XK}
end
end L2
namespace HT
open PySem PyProof.Rows PySem.W L2
section
variable{prog:Program}{w:World}{A:Around}{E:Value->Shared->Prop}{h:Heap}{g:Array GenState}{d:Drawn}{t:Nat}{os:OsState}
variable{C f e t0:Addr}{K:Frag}{dx:Option Addr}{u:Value}
end
end HT
namespace L2
open PySem PySem.Spec PyProof.Rows PySem.W
section
variable{X:Cx}{o value e:Expr}{es:List Expr}{f x:Str}{pos pos' apos np:Pos}{ta tv:TE}{t:TA}{S:Addr}
end
section
variable{X:Cx}{pins:List (Addr×Obj)}{σ:St}{H:Hp}{s:Shared}
end
section
variable{X:Cx}{e:Expr}{es:List Expr}{t:TA}{np cpos pos p:Pos}{x:Str}{C f:Addr}
end
end L2
namespace HT
open PySem PyProof.Rows PySem.W L2
end HT
namespace L2
open PySem PySem.Spec PyProof.Rows PySem.W
section
variable{D:Ends}{Ex:XW}{σ:St}{H:Hp}{Q:VK}{K:Frag}{C:Addr}{t:TA}{ta tv:TE}{f:Str}{sp:Sp}{E:XK}
end
end L2
namespace L2
open PySem PySem.Spec PyProof.Rows
section
variable{X:Cx}
end
end L2
namespace L2
open PySem PySem.Spec PyProof.Rows PySem.Builtin PySem.Builtin.Str
section
variable{X:Cx}
variable{o e a b:Expr}{rest:List Expr}{to ta tb:TE}{t:TA}{apos cpos pos:Pos}
end
section
variable{P:Program}{w:World}{K:DU}{mg:Str->Option Value}{base:Heap}
end
end L2
namespace HT
open PySem PyProof.Rows PySem.W L2
noncomputable def start(m:Nat)(h:Int):Ob:={ j:=HQ h % (m+1),more:=N7 m (HQ h % (m+1)) - HQ h % (m+1),i:=HQ h % (m+1),perturb:=HQ h,dummy:=none }
section
variable{prog:Program}{w:World}{A:Around}{E:Value->Shared->Prop}{s:Shared}
end
section
variable{prog:Program}{w:World}{A:Around}{E:Value->Shared->Prop}{s:Shared}
end
section
variable{prog:Program}{w:World}{A:Around}{E:Value->Shared->Prop}{s:Shared}
end
section
variable{prog:Program}{w:World}{A:Around}{E:Value->Shared->Prop}{s:Shared}
end
end HT
namespace L2
open PySem PySem.Spec PyProof.Rows PySem.W
section
variable{X:Cx}{e:Expr}{t:TA}{p p2 pos pos2:Pos}{pins:List (Addr×Obj)}{σ:St}{H:Hp}{s:Shared}
end
end L2
namespace L2
open PySem PySem.Spec PyProof.Rows
noncomputable def Wt(φ:Nat->Int)(c:Nat)(g:List (List Nat)):Int:=if 1<(kys (bD g c)).length then φ g.length else 0
noncomputable def Tw(φ:Nat->Int):Nat->Nat->List (List Nat)->Int
 | 0,_,_=>0
 | n+1,c,g=>Wt φ c g+((DZ 64).map λf=>if 1<(eP c f g).length then Tw φ n (c+1) (eP c f g)else 0).sum
theorem tN{g h:List (List Nat)}(p:g.Perm h)(c:Nat):(bD g c).Perm (bD h c):=p.map _
theorem wR{φ:Nat->Int}{g h:List (List Nat)}(p:g.Perm h):Wt φ c g=Wt φ c h:=by
 unfold Wt;have e:(1<(kys (bD g c)).length)↔(1<(kys (bD h c)).length):=by
  rw[kys_par,kys_par];have m:∀x,x∈bD g c↔x∈bD h c:=λx=>(tN p c).mem_iff
  unfold Par;constructor
  ·rintro⟨x,hx,y,hy,ne⟩;exact⟨x,(m x).mp hx,y,(m y).mp hy,ne⟩
  ·rintro⟨x,hx,y,hy,ne⟩;exact⟨x,(m x).mpr hx,y,(m y).mpr hy,ne⟩
 rw[p.length_eq];by_cases q:1<(kys (bD g c)).length
 ·rw[if_pos q,if_pos (e.mp q)]
 ·rw[if_neg q,if_neg (λz=>q (e.mpr z))]
theorem qL{φ:Nat->Int}:∀(n c:Nat){g h:List (List Nat)},g.Perm h->Tw φ n c g=Tw φ n c h
 | 0,_,_,_,_=>rfl
 | n+1,c,g,h,p=>by
  unfold Tw;rw[wR p];congr 2;refine Eo λf _=>?_
  have q:(eP c f g).Perm (eP c f h):=p.filter _;rw[q.length_eq,qL n (c+1) q]
theorem tO{φ:Nat->Int}:∀(n c:Nat){g:List (List Nat)},g.length<2->Tw φ n c g=0
 | 0,_,_,_=>rfl
 | n+1,c,g,h=>by
  unfold Tw;have e1:Wt φ c g=0:=by
   unfold Wt;rw[if_neg];intro z;obtain⟨x,hx,y,hy,ne⟩:=kys_par.mp z
   match g,h with
   | [],_=>cases hx
   | [r],_=>exact ne ((D5.mp hx).trans (D5.mp hy).symm)
  rw[e1,gE λx hx=>?_];rfl;obtain⟨f,_,rfl⟩:=D4.mp hx;have:(eP c f g).length<=g.length:=Ge ..;rw[if_neg ⋯]
theorem m7{α β:Type}{f:α->List β}{φ:β->Int}:∀{l:List α},((l.flatMap f).map φ).sum=(l.map λa=>((f a).map φ).sum).sum
 | []=>rfl
 | a::l=>by rw[Jn,D0,Fd,m7,Ez,EJ]
theorem d6{α:Type}{φ:α->Int}{p:α->Bool}:∀{l:List α},((l.filter p).map φ).sum=(l.map λa=>if p a=true then φ a else 0).sum
 | []=>rfl
 | a::l=>by
  rw[HZ,Ez,EJ,<-d6 (l:=l)];split
  ·rw[Ez,EJ]
  ·rw[Hq]
theorem qM{α:Type}{φ ψ:α->Int}:∀{l:List α},(l.map λa=>φ a+ψ a).sum=(l.map φ).sum+(l.map ψ).sum
 | []=>rfl
 | a::l=>by simp only[Ez,EJ,qM (l:=l)];lia
noncomputable def Lwt(φ:Nat->Int)(rss:List (List Nat))(k:Nat):Int:=((oH rss k).map (Wt φ k)).sum
theorem m8{rss:List (List Nat)}:∀k,∀g∈oH rss k,∀r∈g,r∈rss
 | 0,g,h,r,hr=>by rw[D5.mp h]at hr;exact hr
 | k+1,g,h,r,hr=>by
  obtain⟨g',h1,h2⟩:=JG.mp h;obtain⟨f,_,rfl⟩:=D4.mp (EI.mp h2).1;exact m8 k g' h1 r (EI.mp hr).1
theorem uS{φ:Nat->Int}{rss:List (List Nat)}(hb:∀r∈rss,∀x∈r,x<64):∀(n c:Nat),((oH rss c).map (Tw φ n c)).sum=((DZ n).map λk=>Lwt φ rss (c+k)).sum
 | 0,c=>gE λx hx=>by obtain⟨g,_,rfl⟩:=D4.mp hx;rfl
 | n+1,c=>by
  have ih:=uS (φ:=φ) hb n (c+1);have e1:((oH rss c).map (Tw φ (n+1) c)).sum=Lwt φ rss c+((oH rss (c+1)).map (Tw φ n (c+1))).sum:=by
   show((oH rss c).map λg=>Wt φ c g+((DZ 64).map λf=>if 1<(eP c f g).length then Tw φ n (c+1) (eP c f g)else 0).sum).sum=_+((zF c (oH rss c)).map (Tw φ n (c+1))).sum
   rw[qM];unfold Lwt zF;congr 1;rw[m7];congr 1;refine Eo λg hg=>?_
   rw[d6];unfold m5;rw[ED];have e2:((λa=>if decide (1<G7 a)=true then Tw φ n (c+1) a else 0)∘λf=>eP c f g)=λf=>if 1<(eP c f g).length then Tw φ n (c+1) (eP c f g)else 0:=by
    funext f
    show(if decide (1<(eP c f g).length)=true then _ else _)=_
    by_cases q:1<(eP c f g).length
    ·rw[if_pos (decide_eq_true q),if_pos q]
    ·rw[if_neg (by simp[q]),if_neg q]
   rw[e2];refine fE HU (il _) λf hf=>?_
   have h1:1<(eP c f g).length:=FS λz=>hf (if_neg z)
   obtain⟨r,hr⟩:=Iu (show 0<(eP c f g).length by lia);obtain⟨h2,h3⟩:=EI.mp hr;have h3:=of_decide_eq_true h3;refine⟨λ_=>kys_mem.mpr (D4.mpr ⟨r,h2,h3⟩),λ_=>EF.mpr ?_⟩;rw[<-h3];by_cases q:c<r.length
   ·rw[DS,DR q]
    exact hb r (m8 c g hg r h2) _ (D1 q)
   ·rw[DS,Fo ⋯];decide
  rw[e1,ih,Kk,Ez,EJ,ED];congr 2;refine Eo λk _=>?_
  show Lwt φ rss (c+1+k)=Lwt φ rss (c+(k+1))
  congr 1;lia
theorem ip{c:Nat}(v:Nat):∀{R:List (List Nat)},(bD R c).Pairwise (·<=·)->(R.drop (bC (bD R c) v)).take ((bD R c).count v)=eP c v R
 | [],_=>by unfold eP;simp
 | r::R,h=>by
  have h:(r.getD c 0::bD R c).Pairwise (·<=·):=h;obtain⟨h1,h2⟩:=FQ.mp h;have ih:=ip (c:=c) v h2;have el:bC (bD (r::R) c) v=bC (bD R c) v+if r.getD c 0<v then 1 else 0:=by
   show List.countP _ (r.getD c 0::bD R c)=_
   rw[HX];unfold bC;simp
  have ec:(bD (r::R) c).count v=(bD R c).count v+if r.getD c 0=v then 1 else 0:=by
   show Ma v (r.getD c 0::bD R c)=_
   rw[Mc];simp
  have es:eP c v (r::R)=if r.getD c 0=v then r::eP c v R else eP c v R:=by
   unfold eP;rw[HZ];simp
  have none0:v<=r.getD c 0->bC (bD R c) v=0:=λq=>by
   unfold bC;rw[Iy];intro x hx;have:=h1 x hx;simp;lia
  rw[el,ec,es];rcases Fn (r.getD c 0) v with q|q|q
  ·have n2:¬r.getD c 0=v:=by lia
   rw[if_pos q,if_neg n2,if_neg n2,IA];exact ih
  ·have n1:¬r.getD c 0<v:=by lia
   rw[if_neg n1,if_pos q,if_pos q,none0 ⋯];rw[none0 ⋯,EB]at ih;rw[Hm,EB,GD,ih]
  ·have n1:¬r.getD c 0<v:=by lia
   have n2:¬r.getD c 0=v:=by lia
   rw[if_neg n1,if_neg n2,if_neg n2,none0 ⋯,Hm,Hm,EB];have z:(bD R c).count v=0:=FB.mpr λz=>by have:=h1 v z;lia
   rw[none0 ⋯,z,II]at ih;rw[z,II];exact ih
noncomputable def cJ(rss:List (List Nat))(os:List Nat):List (List Nat):=os.map λp=>rss.getD p []
theorem fF{rss:List (List Nat)}{seg:List Nat}(h:∀p∈seg,p<rss.length):bD (cJ rss seg) c=cK rss c seg:=by
 unfold bD cJ cK;rw[ED];refine Eo λp hp=>?_
 have:=h p hp;show(rss.getD p []).getD c 0=(rss.map λr=>r.getD c 0).getD p 0
 have e1:rss.getD p []=rss[p]:=by rw[DS,DR this];rfl
 have e2:(rss.map λr=>r.getD c 0).getD p 0=rss[p].getD c 0:=by rw[DS,DX,DR this];rfl
 rw[e1,e2]
noncomputable def Sw(φ:Nat->Int)(st:List cA):Int:=(st.map λs=>φ (s.2.1 - s.1)).sum
noncomputable def Uw(φ:Nat->Int)(rss:List (List Nat))(C:Nat)(os:List Nat)(us:List cA):Int:=(us.map λs=>Tw φ (C - s.2.2) s.2.2 (cJ rss (cv os s.1 s.2.1))).sum
theorem qN{rss:List (List Nat)}{os:List Nat}:cJ rss ((os.drop n).take m)=((cJ rss os).drop n).take m:=by unfold cJ;rw[Gi,GG]
theorem wU{φ:Nat->Int}{rss:List (List Nat)}{C:Nat}{os seg':List Nat}{f l:Nat}(hb:∀r∈rss,∀x∈r,x<64)(hl:os.length=rss.length)(hin:∀p∈os,p<rss.length)(hfl:f<=l)(hln:l<=rss.length)(hcC:c<C)(hp:seg'.Perm (cv os f l))(hs:(cK rss c seg').Pairwise (·<=·)):
  Tw φ (C - c) c (cJ rss (cv os f l))=Wt φ c (cJ rss (cv os f l))+Uw φ rss C (os.take f++seg'++os.drop l) (((a0 f (cnt (cK rss c (cv os f l)) 64) (c+1)).filter (act C)).reverse):=by
 have hsl:(cv os f l).length=l - f:=by unfold cv;rw[Ee,EO];lia
 have hsl':seg'.length=l - f:=by rw[hp.length_eq,hsl]
 have hin1:∀p∈cv os f l,p<rss.length:=λp h=>hin p (G3 (FH h))
 have hin':∀p∈seg',p<rss.length:=λp h=>hin1 p (hp.mem_iff.mp h)
 have pf:(cK rss c seg').Perm (cK rss c (cv os f l)):=hp.map _;have pr:(cJ rss seg').Perm (cJ rss (cv os f l)):=hp.map _;rw[show C - c=(C - (c+1))+1 by lia];show Wt _ _ _+_=_
 congr 1;unfold Uw;rw[HS,LP,d6,fA,ED];congr 1;refine Eo λv hv=>?_
 show _=if act C (f+bC (cK rss c (cv os f l)) v,f+bC (cK rss c (cv os f l)) (v+1),c+1)=true then Tw φ (C - (c+1)) (c+1) (cJ rss (cv (os.take f++seg'++os.drop l) (f+bC (cK rss c (cv os f l)) v) (f+bC (cK rss c (cv os f l)) (v+1))))else 0
 have el:∀x,bC (cK rss c (cv os f l)) x=bC (cK rss c seg') x:=λx=>(pf.countP_eq _).symm
 have ec:=pf.count_eq v;have hsucc:=cn (cK rss c seg') v;have hle:=du (cK rss c seg') (v+1);have hfl2:(cK rss c seg').length=l - f:=by unfold cK;rw[DT,hsl']
 have hcol:=fF (c:=c) hin';have part:=ip (c:=c) v (R:=cJ rss seg') (by rw[hcol];exact hs);rw[hcol]at part;have seg2:cv (os.take f++seg'++os.drop l) (f+bC (cK rss c seg') v) (f+bC (cK rss c seg') (v+1))=(seg'.drop (bC (cK rss c seg') v)).take ((cK rss c seg').count v):=by
  unfold cv;have ht:(os.take f).length=f:=by rw[Ee];lia
  rw[hsucc,EA,show f+(bC (cK rss c seg') v+(cK rss c seg').count v) - (f+bC (cK rss c seg') v)=(cK rss c seg').count v by lia];rw[LU,GN (by rw[ht];lia),Gc,ht,Nat.add_sub_cancel_left,List.drop_append_of_le_length ⋯,List.take_append_of_le_length (by rw[EO];lia)]
 rw[el,el,seg2,qN,part];have psel:(eP c v (cJ rss seg')).Perm (eP c v (cJ rss (cv os f l))):=pr.filter _;have hcnt:(eP c v (cJ rss seg')).length=(cK rss c seg').count v:=by
  rw[<-hcol];unfold eP bD;rw[GV,Gf,DT];congr 1
 rw[<-psel.length_eq,qL _ _ psel.symm,hcnt];by_cases q:1<(cK rss c seg').count v
 ·rw[if_pos q]
  by_cases q2:c+1<C
  ·rw[if_pos (by unfold act;simp only[EH,decide_eq_true_eq];lia)]
  ·rw[if_neg (by unfold act;simp only[EH,decide_eq_true_eq];lia),show C - (c+1)=0 by lia];rfl
 ·rw[if_neg q,if_neg (by unfold act;simp only[EH,decide_eq_true_eq];lia)]
def Stk(us:List cA):Prop:=us.Pairwise λa b=>b.2.1<=a.1
theorem wV{os seg':List Nat}{f l a:Nat}(hf:f<=os.length)(hl:l<=os.length)(hfl:f<=l)(hs:seg'.length=l - f)(h:l<=a):cv (os.take f++seg'++os.drop l) a b=cv os a b:=by
 unfold cv;have e:(os.take f++seg').length=l:=by rw[D8,Ee,hs];lia
 rw[LU,GN ⋯,Gc,e,F4];congr 2;lia
theorem qO{C f l:Nat}(hl:row.length=l - f)(hfl:f<=l):Stk ((a0 f (cnt row 64) (c+1)).filter (act C)).reverse/\∀s∈((a0 f (cnt row 64) (c+1)).filter (act C)).reverse,s.2.1<=l:=by
 constructor
 ·unfold Stk
  rw[Kp,fA];refine KF _ (Gj.mpr (HJ.imp λ{a b} h=>?_));have:=cP (os:=row) (show a+1<=b from h);show f+bC row (a+1)<=f+bC row b
  lia
 ·intro s hs
  obtain⟨hm,_⟩:=EI.mp (Ft.mp hs);rw[fA]at hm;obtain⟨g,_,rfl⟩:=D4.mp hm;have:=du row (g+1);show f+bC row (g+1)<=l
  lia
theorem Fst.sum{φ:Nat->Int}{rss:List (List Nat)}{C:Nat}{os:List Nat}{st us:List cA}(hb:∀r∈rss,∀x∈r,x<64)(h:Fst rss C os st us):Stk us/\Sw φ st+Uw φ rss C os us=Tw φ C 0 rss:=by
 have eL:cJ rss (DZ rss.length)=rss:=by
  unfold cJ;exact jG rss []
 -- the common part of a step
 have key:∀{os seg':List Nat}{st us:List cA}{f l c:Nat},Fst rss C os st (us++[(f,l,c)])->Stk (us++[(f,l,c)])->seg'.Perm (cv os f l)->(cK rss c seg').Pairwise (·<=·)->
   Stk (us++((a0 f (cnt (cK rss c (cv os f l)) 64) (c+1)).filter (act C)).reverse)/\Wt φ c (cJ rss (cv os f l))+Uw φ rss C (os.take f++seg'++os.drop l) (us++((a0 f (cnt (cK rss c (cv os f l)) 64) (c+1)).filter (act C)).reverse)=Uw φ rss C os (us++[(f,l,c)]):=by
  intro os seg' st us f l c hF hS hp hs;obtain⟨hperm,hok⟩:=hF.inv;obtain⟨o1,o2,o3⟩:=hok (f,l,c) (Eg _ (D5.mpr rfl));have o1:f+2<=l:=o1;have o2:l<=rss.length:=o2;have o3:c<C:=o3;have hosl:os.length=rss.length:=by have:=hperm.length_eq;simpa using this
  have hin:∀p∈os,p<rss.length:=λp h=>EF.mp (hperm.mem_iff.mp h)
  have hsl:(cv os f l).length=l - f:=by unfold cv;rw[Ee,EO];lia
  have hrow:(cK rss c (cv os f l)).length=l - f:=by unfold cK;rw[DT,hsl]
  obtain⟨s1,s2,s3⟩:=Fb.mp hS;obtain⟨p1,p2⟩:=qO (C:=C) (c:=c) hrow (by lia:f<=l);constructor
  ·refine Fb.mpr ⟨s1,p1,λa ha b hb'=>?_⟩
   have h1:=s3 a ha (f,l,c) (D5.mpr rfl);have h1:l<=a.1:=h1;exact ET (p2 b hb') h1
  ·have e1:=wU (φ:=φ) hb hosl hin ⋯ o2 o3 hp hs
   unfold Uw at e1 ⊢;rw[D0,Fd,D0,Fd];have e2:(us.map λs=>Tw φ (C - s.2.2) s.2.2 (cJ rss (cv (os.take f++seg'++os.drop l) s.1 s.2.1)))=us.map λs=>Tw φ (C - s.2.2) s.2.2 (cJ rss (cv os s.1 s.2.1)):=by
    refine Eo λa ha=>?_
    have h1:=s3 a ha (f,l,c) (D5.mpr rfl);rw[wV ⋯ ⋯ ⋯ (by rw[hp.length_eq,hsl]) h1]
   rw[e2];have e3:([(f,l,c)].map λs:cA=>Tw φ (C - s.2.2) s.2.2 (cJ rss (cv os s.1 s.2.1))).sum=Tw φ (C - c) c (cJ rss (cv os f l)):=by simp
   rw[e3,e1];lia
 induction h with
 | start=>
  refine⟨?_,?_⟩
  ·refine KF _ (FJ ..)
  ·show 0+Uw φ rss C _ _=_
   rw[Hq];unfold Uw;rw[d6];show(if act C (0,rss.length,0)=true then Tw φ (C - 0) 0 (cJ rss (cv (DZ rss.length) 0 rss.length))else 0)+0=_
   have e0:cv (DZ rss.length) 0 rss.length=DZ rss.length:=by
    unfold cv;rw[EB,DW (by simp)]
   rw[Lf,e0,eL,Io];by_cases q:act C (0,rss.length,0)=true
   ·rw[if_pos q]
   ·rw[if_neg q]
    unfold act at q;simp only[EH,decide_eq_true_eq]at q;by_cases q2:rss.length<2
    ·rw[tO C 0 q2]
    ·have:C=0:=by lia
     rw[this];rfl
 | @step os ob st us f l c hF hp hB ih=>
  obtain⟨hperm,hok⟩:=hF.inv;have hin:∀p∈os,p<rss.length:=λp h=>EF.mp (hperm.mem_iff.mp h)
  have hO:=hB.ord;have hfl:(cK rss c (cv os f l)).length=(cv os f l).length:=by unfold cK;rw[DT]
  have pc:(cmp (cv os f l) ob).Perm (cv os f l):=fi (os:=ob) (by rw[<-hfl];exact hO.perm);have efig:cK rss c (cmp (cv os f l) ob)=cmp (cK rss c (cv os f l)) ob:=by
   unfold cK cmp;rw[ED];refine Eo λj hj=>?_
   have:=hO.lt j hj;rw[hfl]at this;simp[DS,this]
  have srt:(cK rss c (cmp (cv os f l) ob)).Pairwise (·<=·):=by
   rw[efig];unfold cmp;exact Gj.mpr (hB.rise.imp λ{a b} h=>by lia)
  obtain⟨k1,k2⟩:=key hF ih.1 pc srt;refine⟨k1,?_⟩;have h2:=ih.2;have hW:Wt φ c (cJ rss (cv os f l))=φ (l - f):=by
   have hin1:∀p∈cv os f l,p<rss.length:=λp h=>hin p (G3 (FH h))
   obtain⟨o1,o2,o3⟩:=hok (f,l,c) (Eg _ (D5.mpr rfl));have o1:f+2<=l:=o1;have o2:l<=rss.length:=o2;have hosl:os.length=rss.length:=by have:=hperm.length_eq;simpa using this
   unfold Wt;rw[fF hin1,if_pos (kys_par.mpr ((qI (b:=64) ?_).mp hp))]
   ·congr 1
    unfold cJ cv;rw[DT,Ee,EO];lia
   ·intro x hx
    rw[<-fF hin1]at hx;obtain⟨r,hr,rfl⟩:=D4.mp hx;obtain⟨p,hp',rfl⟩:=D4.mp hr;have:=hin1 p hp';show((rss.getD p []).getD c 0)<64
    rw[show rss.getD p []=rss[p]by rw[DS,DR this];rfl];by_cases q:c<rss[p].length
    ·rw[DS,DR q]
     exact hb _ (D1 this) _ (D1 q)
    ·rw[DS,Fo ⋯];decide
  have hS:Sw φ (st++[(f,l,c)])=Sw φ st+φ (l - f):=by unfold Sw;rw[D0,Fd];simp
  rw[hS,<-hW,<-h2,<-k2];lia
 | @stay os st us f l c hF hp ih=>
  obtain⟨hperm,hok⟩:=hF.inv;obtain⟨o1,o2,o3⟩:=hok (f,l,c) (Eg _ (D5.mpr rfl));have o1:f+2<=l:=o1;have hin:∀p∈os,p<rss.length:=λp h=>EF.mp (hperm.mem_iff.mp h)
  have hin1:∀p∈cv os f l,p<rss.length:=λp h=>hin p (G3 (FH h))
  have hlt:∀x∈cK rss c (cv os f l),x<64:=λx hx=>by
   rw[<-fF hin1]at hx;obtain⟨r,hr,rfl⟩:=D4.mp hx;obtain⟨p,hp',rfl⟩:=D4.mp hr;have:=hin1 p hp';show((rss.getD p []).getD c 0)<64
   rw[show rss.getD p []=rss[p]by rw[DS,DR this];rfl];by_cases q:c<rss[p].length
   ·rw[DS,DR q]
    exact hb _ (D1 this) _ (D1 q)
   ·rw[DS,Fo ⋯];decide
  have alike:∀x∈cK rss c (cv os f l),∀y∈cK rss c (cv os f l),x=y:=λx hx y hy=>FS λne=>by
   have:=(qI hlt).mpr ⟨x,hx,y,hy,ne⟩;rw[hp]at this;cases this
  have srt:(cK rss c (cv os f l)).Pairwise (·<=·):=by
   refine EL.mpr λi j hi hj _=>?_
   rw[alike _ (D1 hi) _ (D1 hj)];exact DY _
  obtain⟨k1,k2⟩:=key hF ih.1 (FP _) srt;refine⟨k1,?_⟩;have hW:Wt φ c (cJ rss (cv os f l))=0:=by
   unfold Wt;rw[fF hin1,if_neg];intro z;obtain⟨x,hx,y,hy,ne⟩:=kys_par.mp z;exact ne (alike x hx y hy)
  rw[i5 ⋯,hW,Hq]at k2;rw[k2];exact ih.2
end L2
namespace L2
open PySem PySem.Spec PyProof.Rows PySem.W
section
variable{X:Cx}{e o:Expr}{to te:TE}{t:TA}{pos apos cpos:Pos}
end
end L2
namespace L2
open PySem PySem.Spec PyProof.Rows
noncomputable def st0:List Str->List V->St
 | [],_=>[]
 | _::N,v::vs=>some v::st0 N vs
 | _::N,[]=>none::st0 N []
theorem qP:∀(N:List Str) (vs:List V),vs.length<=N.length->start N vs=st0 N vs
 | [],[],_=>rfl
 | x::N,[],h=>by
  have:=qP N [] (Ec _);unfold st0;rw[<-this];rfl
 | x::N,v::vs,h=>by
  have:=qP N vs (Nat.le_of_succ_le_succ h);unfold st0;rw[<-this];unfold start;simp
theorem nwD{H:Hp}{p:Addr}(s:Same H0 H)(h:H p=none)(o:HO):∃H1,upd H p o=H1/\Same H0 H1/\Same H H1/\H1 p=some o:=⟨_,rfl,s.new h,(Oi H).new h,aj⟩
theorem nwS{H:Hp}{p:Addr}(s:Same H0 H)(h:H p=none)(o:HO):∃H1,upd H p o=H1/\Same H0 H1/\H1 p=some o:=⟨_,rfl,s.new h,aj⟩
theorem nwR{H:Hp}{p:Addr}(h:H p=none)(o:HO):∃H1,upd H p o=H1/\Same H H1/\H1 p=some o:=⟨_,rfl,(Oi H).new h,aj⟩
theorem nwT{H:Hp}{p:Addr}(s:St2 a H0 H)(h:H p=none)(o:HO):∃H1,upd H p o=H1/\St2 a H0 H1/\H1 p=some o:=⟨_,rfl,s.new h,aj⟩
theorem owS{H:Hp}{p:Addr}(s:Same H0 H)(h:H0 p=none)(o:HO):∃H1,upd H p o=H1/\Same H0 H1/\H1 p=some o/\∀q u,q≠p->H q=some u->H1 q=some u:=⟨_,rfl,s.own h,aj,λq u n e=>by rw[aB n];exact e⟩
noncomputable abbrev Ent:=Str×Stmt×List Str
noncomputable abbrev en(x:Str)(s:Stmt)(p:List Str):Ent:=(x,s,p)
def BP(e:Ent):Prop:=∀(kV doc pm:Value) (an:Option Addr) (cdv ct:Value) (us:List Value),us.length=e.2.2.length->bindArgs (F8 e.1 e.1 (eE e.2.1) (cZ e.2.1) (bI e.2.1) .none kV doc pm an cdv ct) ⟨us,[]⟩=pure (e.2.2.zip us)
noncomputable def AB:List Ent->Prop
 | []=>True
 | e::r=>BP e/\AB r
theorem AB.get:∀{l:List Ent}{i:Nat}{e:Ent},AB l->l[i]? = some e->BP e
 | [],i,e,_,h=>by simp at h
 | a::l,0,e,⟨b,_⟩,h=>by cases h;exact b
 | a::l,i+1,e,⟨_,b⟩,h=>AB.get (l:=l) b h
def FT(K:DU)(mg:Str->Option Value)(f:Addr)(d:FuncData)(x:Str)(s:Stmt)(p:List Str):Prop:=mg x=some (.ref f)/\Fun K x x s f d/\Binds K d p []
noncomputable def Al(K:DU):List Ent->List Addr->List FuncData->Prop
 | [],_,_=>True
 | (x,s,_)::r,f::fs,d::ds=>(EK K mainGlobals x=some (some (.ref f))/\Fun K x x s f d)/\Al K r fs ds
 | _,_,_=>False
theorem Al.nil{K:DU}:Al K [] [] []:=trivial
theorem Al.cons{K:DU}{x:Str}{s:Stmt}{p:List Str}{f:Addr}{d:FuncData}{r:List Ent}{fs:List Addr}{ds:List FuncData}(h:EK K mainGlobals x=some (some (.ref f)))(g:Fun K x x s f d)(k:Al K r fs ds):Al K ((x,s,p)::r) (f::fs) (d::ds):=⟨⟨h,g⟩,k⟩
theorem Al.get{K:DU}{f0:Addr}{d0:FuncData}{x:Str}{s:Stmt}{p:List Str}:∀{l:List Ent}{fs:List Addr}{ds:List FuncData}{i:Nat},Al K l fs ds->l[i]? = some (x,s,p)->EK K mainGlobals x=some (some (.ref (fs.getD i f0)))/\Fun K x x s (fs.getD i f0) (ds.getD i d0)
 | [],_,_,_,_,h=>by simp at h
 | (_,_,_)::l,f::fs,d::ds,0,⟨a,_⟩,h=>by cases h;exact a
 | (_,_,_)::l,f::fs,d::ds,i+1,⟨_,a⟩,h=>Al.get (l:=l) (fs:=fs) (ds:=ds) (i:=i) a h
theorem Al.ft{K:DU}{mg:Str->Option Value}{l:List Ent}{fs:List Addr}{ds:List FuncData}(X:K.In h)(G:h.Ns mainGlobals mg)(al:Al K l fs ds)(ab:AB l)(f0:Addr)(d0:FuncData)(i:Nat){s:Stmt}{p:List Str}(e:l[i]? = some (x,s,p)):
  FT K mg (fs.getD i f0) (ds.getD i d0) x s p:=
 let g:=al.get (f0:=f0) (d0:=d0) e
 ⟨G6 X G g.1,g.2,g.2.binds (AB.get ab e)⟩
section
variable{P:Program}{w:World}{K:DU}{mg:Str->Option Value}{base:Heap}
theorem okT{st:Stmt}{f:Addr}{fd:FuncData}{N ps:List Str}{k:Nat}{sp:Sp}(F:FT K mg f fd x st ps)
  (hbody:∀{cdv:Value}{A:Around}{outer:List Env}{s:Shared}{vs:List V}{E:XK}(H:Hp) (Q:VK),Room k (A.deeper (envOfC x (bI st) s.heap.objs.size f cdv))->N.Nodup->sp vs H Q E->
   ∃t,QB (uw CX0 P w K mg base N x (bI st) f cdv A outer s H E).nox (cZ st) t/\t { nx:=λ_ H'=>Q .non H',rt:=Q } (st0 N vs) H)
  (S:FnScope N ps (bI st):=by exact⟨rfl,rfl,rfl,by decide +kernel,rfl,by decide +kernel,by decide +kernel⟩)
  (len:∀{vs H Q E},sp vs H Q E->vs.length=ps.length:=by intro _ _ _ _ h;repeat (first|(obtain⟨rfl,_⟩:=h;rfl)|obtain⟨_,h⟩:=h)):FnOk P w K mg base CX0 (k+1) f fd ps sp:=
 F.2.1.okQ S (λ_ _ _ _ h=>len h) λcdv A outer s H vs Q E hr h=>by
  rw[qP N vs (by rw[len h,<-S.pre,Ee];exact LH ..)];exact hbody H Q hr S.nd h
end
section
variable{X:Cx}{e:Expr}{es:List Expr}{te:TE}{t:TA}{x:Str}{p pos:Pos}{i:Nat}{j k:Nat}{f:Addr}{fd:FuncData}{ps:List Str}{sp:Sp}{st:Stmt}
theorem aI (F:FnOk X.prog X.w X.K X.mg X.base CX0 j f fd ps sp) (hr:Room k X.A) (h:FT X.K X.mg f fd x st ps) (ha:QA X (e::es) t) (hd:j<=k:=by decide) (hg:Gl X x:=by rfl) (hn:(e::es).all bS=true:=by rfl) (hdb:(x == ("__debug__" : Str))=false:=by decide) :
  QE X (.Call (.Name x p) (e::es) [] pos) (o9 sp [] E0 t):=lj F (hr.mono hd) hg h.1 h.2.1.kp h.2.2 jk ha hn hdb
noncomputable def ndB:List Str->Bool
 | []=>true
 | x::r=>!r.elem x && ndB r
theorem uT:∀{l:List Str},ndB l=true->l.Nodup
 | [],_=>.nil
 | x::r,h=>by
  unfold ndB at h;rw[EH]at h;refine Fc.mpr ⟨λz=>?_,uT h.2⟩;rw[List.elem_eq_true_of_mem z]at h;exact absurd h.1 (by decide)
theorem aJ(he:QE X e te)(hN:X.N.Nodup:=by assumption)(hi:X.N[i]? = some x:=by rfl)(hx:Loc X.env.scope x:=by first|exact .inl rfl|exact .inr rfl)(hs:OY e (some (.Name x pos')) pos.line X.env=pure false:=by rfl)(hf:X.fn x=true\/X.env.scope.names.lookup x=some .local:=by first|exact .inl rfl|exact .inr rfl|assumption):
  QS X (.Assign [.Name x pos'] e pos) (nC te (dk i)):=yR hN hi hx he hs hf
theorem aE(hN:X.N.Nodup:=by first|assumption|exact uT (by kernel_rfl))(hi:X.N[i]? = some x:=by rfl)(hx:Loc X.env.scope x:=by first|exact .inl rfl|exact .inr rfl)(hf:X.fn x=true\/X.env.scope.names.lookup x=some .local:=by first|exact .inl rfl|exact .inr rfl|assumption):QG X (.Name x pos) (dk i):=vV hN hi hx hf
end
end L2
namespace L2
open PySem PySem.Spec PyProof.Rows PySem.Builtin PySem.Builtin.Str
section
variable{X:Cx}
variable{o e v w:Expr}{to te tf:TE}{t:TA}{apos cpos pos p1 p2 p3:Pos}{a:Str}{j1:Nat}
end
section
variable{σ:St}{H:Hp}{Q:VK}{a:Str}{te tf:TE}
end
end L2
namespace L2
open PySem PySem.Spec PyProof.Rows PySem.W
section
variable{O:Orc}{α:Type}{b:Ab}{xs ys os:Array Nat}{i j k:Nat}
theorem W.jn{F A:Nat->SM α}{c:Nat->Prop}{dc:∀g,Decidable (c g)}{Q:α->Ab->Prop}(e:∀g,A g=F (g - 1))(h:∀g,W O (F g) Q b):∀g,W O (if c g then A g else F g) Q b:=λg=>Oo (λ_=>by rw[e];exact h _) λ_=>h _
theorem W.jn3{F A:Array Keyed->Nat->SM α}{D:Array Keyed->Nat->Prop}{c:Array Keyed->Nat->Prop}{dc:∀o i,Decidable (c o i)}{Q:α->Ab->Prop}(P:Array Keyed->Nat->Prop)(hm:∀o i,D o i->c o i->(∀o i,P o i->W O (F o i) Q b)->W O (A o i) Q b)(hp:∀o i,D o i->¬c o i->P o i)(h:∀o i,P o i->W O (F o i) Q b):∀o i,D o i->W O (if c o i then A o i else F o i) Q b:=λo i d=>Oo (λz=>hm o i d z h) λz=>h o i (hp o i d z)
theorem W.gal'{lf:Bool}{bs hn:Nat}{Q:Option Nat->Ab->Prop}(hk:k<O.N)(hx:∀j,j<xs.size->xs.getD j 0<O.N)(hm:bs+m<=xs.size)(hh:hn<m)(h:∀K,K<=m->Q (some K) b):W O (L2.gal lf (kas_item O.it k) (xs.map (kas_item O.it)) bs m hn) Q b:=by
 rw[zo];refine On (W.byd hk hx ⋯ ?_);dsimp only;cases bey O lf k xs bs hn<;>simp only[ER,if_true,if_false]
 all_goals
  refine On (Os (D:=λc b'=>b'=b/\c.1=none) (λ_ c b'=>b'=b/\c.1=none) ⟨rfl,rfl⟩ ?_ (λ_ _ h=>h) |>.mono λc b' hc=>?_)
  ·rintro x j ⟨c1,c2,c3⟩ b' ⟨eb,e1⟩
   subst b';dsimp only at e1 ⊢;subst e1;refine Oo (λ_=>Om ⟨rfl,rfl⟩) (λhge=>On (W.byd hk hx ⋯ ?_));exact Oo (λ_=>Om ⟨rfl,rfl⟩) (λ_=>Om ⟨rfl,rfl⟩)
  ·obtain⟨c1,c2,c3⟩:=c
   obtain⟨eb,e1⟩:=hc;subst b';dsimp only at e1 ⊢;subst e1;dsimp only;refine On (Os (D:=λc b1=>b1=b/\c.1=none/\c.2.2<=m) (λ_ c b1=>b1=b/\c.1=none/\c.2.2<=m) ⟨rfl,rfl,by dsimp only;lia⟩ ?_ (λ_ _ h=>h) |>.mono λc b1 hc=>?_)
   ·rintro x j ⟨c1,c2,c3⟩ b1 ⟨eb,e1,e2⟩
    subst b1;dsimp only at e1 e2 ⊢;subst e1;refine Oo (λ_=>Om ⟨rfl,rfl,e2⟩) (λhge=>On (W.byd hk hx ⋯ ?_));exact Oo (λ_=>Om ⟨rfl,rfl,e2⟩) (λ_=>Om ⟨rfl,rfl,by dsimp only;lia⟩)
   ·obtain⟨c1,c2,c3⟩:=c
    obtain⟨eb,e1,e2⟩:=hc;subst b1;dsimp only at e1 e2 ⊢;subst e1;exact Om (h _ e2)
def Pl(xs ys os:Array Nat)(i j:Nat):Prop:=(os.toList++(xs.toList.drop i++ys.toList.drop j)).Perm (xs.toList++ys.toList)
theorem fG(h:i<=k):xs.toList.drop i=(xs.extract i k).toList++xs.toList.drop k:=by
 rw[GZ,Gr];have:=(EW (k - i) (xs.toList.drop i)).symm;rw[F4,show i+(k - i)=k by lia]at this;exact this
theorem Pl.aa(L:Pl xs ys os i j)(h:i<=k):Pl xs ys (os++xs.extract i k) k j:=by
 unfold Pl at *;rw[fG h]at L;rw[EM];simpa only[EA]using L
theorem Pl.bb(L:Pl xs ys os i j)(h:j<=k):Pl xs ys (os++ys.extract j k) i k:=by
 unfold Pl at *;rw[fG (xs:=ys) h]at L;rw[EM,EA];exact(IX ..).append_left _ |>.trans L
theorem C8(h:i<xs.size):(xs.extract i (i+1)).toList=[xs.getD i 0]:=(List.append_cancel_right (as:=[xs.getD i 0]) ((wx h).symm.trans (fG (k:=i+1) ⋯))).symm
theorem zG(h:i<xs.size):os.push (xs.getD i 0)=os++xs.extract i (i+1):=HR.mp (by rw[Hz,EM,C8 h])
theorem Pl.a1(L:Pl xs ys os i j)(h:i<xs.size):Pl xs ys (os.push (xs.getD i 0)) (i+1) j:=by
 rw[zG h];exact L.aa ⋯
theorem Pl.b1(L:Pl xs ys os i j)(h:j<ys.size):Pl xs ys (os.push (ys.getD j 0)) i (j+1):=by
 rw[zG h];exact L.bb ⋯
theorem Pl.dn(L:Pl xs ys os i j):(os++xs.extract i xs.size++ys.extract j ys.size).toList.Perm (xs.toList++ys.toList):=by
 rw[EM,EM,jF,jF,EA];exact L
theorem Pl.la(L:Pl xs ys os i j):(os++ys.extract j ys.size++xs.extract i xs.size).toList.Perm (xs.toList++ys.toList):=by
 rw[EM,EM,jF,jF,EA];exact(Ii.append_left _).trans L
def Ph(xs ys os:Array Nat)(i j:Nat):Prop:=(xs.toList.take i++ys.toList.take j++os.toList.reverse).Perm (xs.toList++ys.toList)
theorem m9(h:k<=i):xs.toList.take i=xs.toList.take k++(xs.extract k i).toList:=by
 rw[GZ,Gr];have:=(EW k (xs.toList.take i)).symm;rw[Ko,List.drop_take,Gd h]at this;exact this
theorem Ph.aa(L:Ph xs ys os i j)(h:k<=i):Ph xs ys (os++(xs.extract k i).reverse) k j:=by
 unfold Ph at *;rw[m9 h]at L;refine .trans ?_ L;simp only[EM,Gs,KQ,G1,EA];exact(IX ..).append_left _
theorem Ph.bb(L:Ph xs ys os i j)(h:k<=j):Ph xs ys (os++(ys.extract k j).reverse) i k:=by
 unfold Ph at *;rw[m9 (xs:=ys) h]at L;simpa only[EM,Gs,KQ,G1,EA]using L
theorem zH(h0:0<i)(h:i<=xs.size):os.push (xs.getD (i - 1) 0)=os++(xs.extract (i - 1) i).reverse:=HR.mp (by
 have:=C8 (xs:=xs) (i:=i - 1) ⋯;rw[show i - 1+1=i by lia]at this;rw[Hz,EM,Gs,this];rfl)
theorem Ph.a1(L:Ph xs ys os i j)(h0:0<i)(h:i<=xs.size):Ph xs ys (os.push (xs.getD (i - 1) 0)) (i - 1) j:=by
 rw[zH h0 h];exact L.aa ⋯
theorem Ph.b1(L:Ph xs ys os i j)(h0:0<j)(h:j<=ys.size):Ph xs ys (os.push (ys.getD (j - 1) 0)) i (j - 1):=by
 rw[zH h0 h];exact L.bb ⋯
theorem Ph.dn(L:Ph xs ys os i j):(xs.extract 0 i++ys.extract 0 j++os.reverse).toList.Perm (xs.toList++ys.toList):=by
 rw[EM,EM,AD,AD,Gs];exact L
theorem Ph.fb(L:Ph xs ys os i j):(ys.extract 0 j++xs.extract 0 i++os.reverse).toList.Perm (xs.toList++ys.toList):=by
 rw[EM,EM,AD,AD,Gs];exact(Ii.append_right _).trans L
def LpR(O:Orc)(b:Ab)(xs ys:Array Nat)(r:Option (Array Keyed))(b1:Ab):Prop:=b1.p=b.p/\b1.pd=b.pd/\∃rs:Array Nat,r=some (rs.map (kas_item O.it))/\rs.toList.Perm (xs.toList++ys.toList)
def LpS(O:Orc)(b:Ab)(xs ys:Array Nat)(m:Nat)(r:Option (Array Keyed))(o:Array Keyed)(i j:Nat)(b1:Ab):Prop:=b1.p=b.p/\b1.pd=b.pd/\r=none/\∃os:Array Nat,o=os.map (kas_item O.it)/\Pl xs ys os i j/\i+1<xs.size/\j<ys.size/\m<=i+j
theorem W.mLo'{Q:Array Keyed->Ab->Prop}(nx:∀i,i<xs.size->xs.getD i 0<O.N)(ny:∀i,i<ys.size->ys.getD i 0<O.N)(x1:0<xs.size)(y1:0<ys.size)
  (h:∀(rs:Array Nat) mg,rs.toList.Perm (xs.toList++ys.toList)->Q (rs.map (kas_item O.it)) { b with mg:=mg }):W O (L2.mLo (xs.map (kas_item O.it)) (ys.map (kas_item O.it))) Q b:=by
 have L1:=Pl.b1 (show Pl xs ys #[] 0 0 by simp[Pl]) y1;rw[zq];refine On (W.rule (On (Oq y1 ?_)));have hx:(xs.map (kas_item O.it)).size=xs.size:=Ed;have hy:(ys.map (kas_item O.it)).size=ys.size:=Ed;refine Ot (λ_=>Om (by simpa only[Ed,kme,kma,km1]using h _ b.mg L1.dn)) λc1=>Ot (λ_=>Om (by simpa only[Ed,kme,kma,km1]using h _ b.mg L1.la)) λc2=>?_
 refine On (W.get (On (Os (D:=λc b1=>LpR O b xs ys c.1 b1) (λk c b1=>LpS O b xs ys (xs.size+ys.size+1 - k) c.1 c.2.1 c.2.2.1 c.2.2.2.1 b1) ⟨rfl,rfl,rfl,_,by simp only[km1],L1,by dsimp only;lia,by dsimp only;lia,by dsimp only;lia⟩ ?_ ?_ |>.mono λc b1 hc=>?_)))
 rotate_left
 ·rintro⟨r,o,i,j,g⟩ b1 ⟨f1,f2,_,os,_,L,hi,hj,hk⟩
  dsimp only at hi hj hk;lia
 ·obtain⟨r,o,i,j,g⟩:=c
  obtain⟨p1,d1,m1⟩:=b1;obtain⟨f1,f2,rs,e,hm⟩:=hc;dsimp only at e f1 f2 ⊢;subst e f1 f2;exact Om (h rs m1 hm)
 rintro x k ⟨r,o,i0,j0,g0⟩ b1 ⟨f1,f2,e,os,eo,L,hi,hj,hk⟩;dsimp only at e eo hi hj hk L ⊢;subst e eo;refine On (Os (D:=λc b1=>LpR O b xs ys c.1 b1\/LpS O b xs ys (i0+j0) c.1 c.2.1 c.2.2.1 c.2.2.2.1 b1) (λ_ c b1=>LpS O b xs ys (i0+j0) c.1 c.2.1 c.2.2.1 c.2.2.2.1 b1) ⟨f1,f2,rfl,_,by simp only[Ed,kme,kmp,kma],L,by dsimp only;lia,by dsimp only;lia,by dsimp only;lia⟩ ?_ (λ_ _ h=>.inr h) |>.mono λc b1 hc=>?_)
 ·rintro x k ⟨r,o,i,j,ca,cb⟩ b1 ⟨f1,f2,e,os,eo,L,hi,hj,hk⟩
  dsimp only at e eo hi hj hk L ⊢;subst e eo;refine On (Oq hj (On (Oq ⋯ (On (W.lt (ny _ hj) (nx _ ⋯) ?_)))));dsimp only;refine Oo (λ_=>On (Oq hj ?_)) λ_=>On (Oq ⋯ ?_)
  ·replace L:=L.b1 hj
   exact Ot (λ_=>Om (Fh ⟨f1,f2,_,by simp only[Ed,kme,kmp,kma],L.dn⟩)) λ_=>Oo (λ_=>Om (IR ⟨f1,f2,rfl,_,by simp only[Ed,kme,kmp,kma],L,by dsimp only;lia,by dsimp only;lia,by dsimp only;lia⟩)) λ_=>Om ⟨f1,f2,rfl,_,by simp only[Ed,kme,kmp,kma],L,by dsimp only;lia,by dsimp only;lia,by dsimp only;lia⟩
  ·replace L:=L.a1 ⋯
   exact Ot (λ_=>Om (Fh ⟨f1,f2,_,by simp only[Ed,kme,kmp,kma],L.la⟩)) λ_=>Oo (λ_=>Om (IR ⟨f1,f2,rfl,_,by simp only[Ed,kme,kmp,kma],L,by dsimp only;lia,by dsimp only;lia,by dsimp only;lia⟩)) λ_=>Om ⟨f1,f2,rfl,_,by simp only[Ed,kme,kmp,kma],L,by dsimp only;lia,by dsimp only;lia,by dsimp only;lia⟩
 obtain⟨r,o,i1,j1,ca,cb⟩:=c;rcases hc with⟨f1,f2,rs,e,hm⟩|⟨f1,f2,e,os,eo,L,hi,hj,hk1⟩
 ·dsimp only at e ⊢
  subst e;exact Om ⟨f1,f2,rs,rfl,hm⟩
 dsimp only at e eo L hi hj hk1 ⊢;subst e eo;refine On (W.rule (On (Os (D:=λc b1=>LpR O b xs ys c.1 b1\/LpS O b xs ys (i1+j1+1) c.1 c.2.1 c.2.2.1 c.2.2.2.1 b1) (λk c b1=>LpS O b xs ys (i1+j1+(xs.size+ys.size - k)) c.1 c.2.1 c.2.2.1 c.2.2.2.1 b1) ⟨f1,f2,rfl,_,by simp only[Ed,kme,kmp,kma],L,by dsimp only;lia,by dsimp only;lia,by dsimp only;lia⟩ ?_ ?_ |>.mono λc b1 hc=>?_)))
 ·rintro x k ⟨r,o,i,j,g,ca,cb⟩ b1 ⟨f1,f2,e,os,eo,L,hi,hj,hk⟩
  dsimp only at e eo hi hj hk L ⊢;subst e;revert g;refine W.jn (λ_=>?_) λg=>On (W.setMG ?_)
  ·rfl
  refine On (Oq hj (On (W.gal' (ny _ hj) nx ⋯ ⋯ λK hK=>?_)));dsimp only;have P0:∃os:Array Nat,o=os.map (kas_item O.it)/\Pl xs ys os i j/\i+1<xs.size/\i1+j1+(xs.size+ys.size - (k+1))<=i+j/\K<=xs.size - i:=⟨os,eo,L,hi,hk,by lia⟩
  clear eo L hi hk hK os;revert o i;refine W.jn3 (P:=λo i=>∃os:Array Nat,o=os.map (kas_item O.it)/\Pl xs ys os i j/\i+1<xs.size/\i1+j1+(xs.size+ys.size - (k+1))<=i+j) ?_ (λo i h _=>by obtain⟨os,eo,L,hi,hk,_⟩:=h;exact⟨os,eo,L,hi,hk⟩) ?_
  ·rintro o i ⟨os,eo,L,hi,hk,hK⟩ z hF
   replace L:=L.aa (k:=i+K) ⋯;exact Ot (λ_=>Om (Fh ⟨f1,f2,_,by rw[eo];simp only[Ed,kme,kmp,kma],L.la⟩)) λ_=>Ot (λ_=>Om (Fh ⟨f1,f2,_,by rw[eo];simp only[Ed,kme,kmp,kma],L.dn⟩)) λ_=>hF _ _ ⟨_,by rw[eo];simp only[Ed,kme,kmp,kma],L,by lia,by lia⟩
  rintro o i ⟨os,eo,L,hi,hk⟩;refine On (Oq hj ?_);replace L:=L.b1 hj;refine Ot (λ_=>Om (Fh ⟨f1,f2,_,by rw[eo];simp only[Ed,kme,kmp,kma],L.dn⟩)) λ_=>?_
  refine On (Oq ⋯ (On (W.gal' (nx _ ⋯) ny ⋯ ⋯ λK' hK'=>?_)));dsimp only;obtain⟨o2,ho2⟩:∃o2,o2=o.push (kas_item O.it (ys.getD j 0)):=⟨_,rfl⟩
  rw[<-ho2];obtain⟨j2,hj2⟩:∃j2,j2=j+1:=⟨_,rfl⟩
  rw[<-hj2]at L hK' ⊢;have P0:∃os:Array Nat,o2=os.map (kas_item O.it)/\Pl xs ys os i j2/\j2<ys.size/\i1+j1+(xs.size+ys.size - (k+1))+1<=i+j2/\K'<=ys.size - j2:=⟨_,by rw[ho2,eo];simp only[kmp],L,by lia,by lia,by lia⟩
  clear ho2 hj2 eo L hK' os;revert o2 j2;refine W.jn3 (P:=λo j=>∃os:Array Nat,o=os.map (kas_item O.it)/\Pl xs ys os i j/\j<ys.size/\i1+j1+(xs.size+ys.size - (k+1))+1<=i+j) ?_ (λo j h _=>by obtain⟨os,eo,L,hj,hk,_⟩:=h;exact⟨os,eo,L,hj,hk⟩) ?_
  ·rintro o j ⟨os,eo,L,hj,hk,hK⟩ z hF
   replace L:=L.bb (k:=j+K') ⋯;exact Ot (λ_=>Om (Fh ⟨f1,f2,_,by rw[eo];simp only[Ed,kme,kmp,kma],L.dn⟩)) λ_=>hF _ _ ⟨_,by rw[eo];simp only[Ed,kme,kmp,kma],L,by lia,by lia⟩
  rintro o j ⟨os,eo,L,hj,hk⟩;refine On (Oq ⋯ ?_);replace L:=L.a1 ⋯;exact Ot (λ_=>Om (Fh ⟨f1,f2,_,by rw[eo];simp only[Ed,kme,kmp,kma],L.la⟩)) λ_=>Oo (λ_=>Om (IR ⟨f1,f2,rfl,_,by rw[eo];simp only[Ed,kme,kmp,kma],L,by dsimp only;lia,by dsimp only;lia,by dsimp only;lia⟩)) λ_=>Om ⟨f1,f2,rfl,_,by rw[eo];simp only[Ed,kme,kmp,kma],L,by dsimp only;lia,by dsimp only;lia,by dsimp only;lia⟩
 ·rintro⟨r,o,i,j,ca,cb⟩ b1 ⟨f1,f2,_,os,_,L,hi,hj,hk⟩
  dsimp only at hi hj hk;lia
 obtain⟨r,o,i2,j2,g2,ca,cb⟩:=c;rcases hc with⟨f1,f2,rs,e,hm⟩|⟨f1,f2,e,os,eo,L,hi,hj,hk2⟩
 ·dsimp only at e ⊢
  subst e;exact Om ⟨f1,f2,rs,rfl,hm⟩
 dsimp only at e eo L hi hj hk2 ⊢;subst e eo;exact On (W.setMG (Om ⟨f1,f2,rfl,_,by simp only[Ed,kme,kmp,kma],L,by dsimp only;lia,by dsimp only;lia,by dsimp only;lia⟩))
def LpH(O:Orc)(b:Ab)(xs ys:Array Nat)(m:Nat)(r:Option (Array Keyed))(o:Array Keyed)(i j:Nat)(b1:Ab):Prop:=b1.p=b.p/\b1.pd=b.pd/\r=none/\∃os:Array Nat,o=os.map (kas_item O.it)/\Ph xs ys os i j/\0<i/\1<j/\i<=xs.size/\j<=ys.size/\i+j+1<=m
theorem W.mHi'{Q:Array Keyed->Ab->Prop}(nx:∀i,i<xs.size->xs.getD i 0<O.N)(ny:∀i,i<ys.size->ys.getD i 0<O.N)(x1:0<xs.size)(y1:0<ys.size)
  (h:∀(rs:Array Nat) mg,rs.toList.Perm (xs.toList++ys.toList)->Q (rs.map (kas_item O.it)) { b with mg:=mg }):W O (L2.mHi (xs.map (kas_item O.it)) (ys.map (kas_item O.it))) Q b:=by
 have tk:∀zs:Array Nat,zs.toList.take zs.size=zs.toList:=λzs=>DW (by simp)
 have L1:=Ph.a1 (show Ph xs ys #[] xs.size ys.size by simp[Ph,tk]) x1 (DY _);rw[zr];have hx:(xs.map (kas_item O.it)).size=xs.size:=Ed;have hy:(ys.map (kas_item O.it)).size=ys.size:=Ed;refine On (W.rule (On (Oq ⋯ ?_)));rw[hx,hy];refine Ot (λ_=>Om (by simpa only[Ed,kmr,kme,kma,km1]using h _ b.mg L1.dn)) λc1=>Ot (λ_=>Om (by simpa only[Ed,kmr,kme,kma,km1]using h _ b.mg L1.fb)) λc2=>?_
 refine On (W.get (On (Os (D:=λc b1=>LpR O b xs ys c.1 b1) (λk c b1=>LpH O b xs ys k c.1 c.2.2.2.1 c.2.1 c.2.2.1 b1) ⟨rfl,rfl,rfl,_,by simp only[km1],L1,by dsimp only;lia,by dsimp only;lia,by dsimp only;lia,by dsimp only;lia,by dsimp only;lia⟩ ?_ ?_ |>.mono λc b1 hc=>?_)))
 rotate_left
 ·rintro⟨r,i,j,o,g⟩ b1 ⟨f1,f2,_,os,_,L,hi,hj,hi2,hj2,hk⟩
  lia
 ·obtain⟨r,i,j,o,g⟩:=c
  obtain⟨p1,d1,m1⟩:=b1;obtain⟨f1,f2,rs,e,hm⟩:=hc;dsimp only at e f1 f2 ⊢;subst e f1 f2;exact Om (h rs m1 hm)
 rintro x k ⟨r,i0,j0,o,g0⟩ b1 ⟨f1,f2,e,os,eo,L,hi,hj,hi2,hj2,hk⟩;dsimp only at e eo hi hj hi2 hj2 hk L ⊢;subst e eo;refine On (Os (D:=λc b1=>LpR O b xs ys c.1 b1\/LpH O b xs ys (i0+j0+1) c.1 c.2.2.2.1 c.2.1 c.2.2.1 b1) (λ_ c b1=>LpH O b xs ys (i0+j0+1) c.1 c.2.2.2.1 c.2.1 c.2.2.1 b1) ⟨f1,f2,rfl,_,by simp only[Ed,kme,kmp,kmr,kma],L,by dsimp only;lia,by dsimp only;lia,by dsimp only;lia,by dsimp only;lia,by dsimp only;lia⟩ ?_ (λ_ _ h=>.inr h) |>.mono λc b1 hc=>?_)
 ·rintro x k ⟨r,i,j,o,ca,cb⟩ b1 ⟨f1,f2,e,os,eo,L,hi,hj,hi2,hj2,hk⟩
  dsimp only at e eo hi hj hi2 hj2 hk L ⊢;subst e eo;refine On (Oq ⋯ (On (Oq ⋯ (On (W.lt (ny _ ⋯) (nx _ ⋯) ?_)))));dsimp only;refine Oo (λ_=>On (Oq ⋯ ?_)) λ_=>On (Oq ⋯ ?_)
  ·replace L:=L.a1 hi hi2
   exact Ot (λ_=>Om (Fh ⟨f1,f2,_,by simp only[Ed,kme,kmp,kmr,kma],L.dn⟩)) λ_=>Oo (λ_=>Om (IR ⟨f1,f2,rfl,_,by simp only[Ed,kme,kmp,kmr,kma],L,by dsimp only;lia,by dsimp only;lia,by dsimp only;lia,by dsimp only;lia,by dsimp only;lia⟩)) λ_=>Om ⟨f1,f2,rfl,_,by simp only[Ed,kme,kmp,kmr,kma],L,by dsimp only;lia,by dsimp only;lia,by dsimp only;lia,by dsimp only;lia,by dsimp only;lia⟩
  ·replace L:=L.b1 ⋯ hj2
   exact Ot (λ_=>Om (Fh ⟨f1,f2,_,by simp only[Ed,kme,kmp,kmr,kma],L.fb⟩)) λ_=>Oo (λ_=>Om (IR ⟨f1,f2,rfl,_,by simp only[Ed,kme,kmp,kmr,kma],L,by dsimp only;lia,by dsimp only;lia,by dsimp only;lia,by dsimp only;lia,by dsimp only;lia⟩)) λ_=>Om ⟨f1,f2,rfl,_,by simp only[Ed,kme,kmp,kmr,kma],L,by dsimp only;lia,by dsimp only;lia,by dsimp only;lia,by dsimp only;lia,by dsimp only;lia⟩
 obtain⟨r,i1,j1,o,ca,cb⟩:=c;rcases hc with⟨f1,f2,rs,e,hm⟩|⟨f1,f2,e,os,eo,L,hi,hj,hi2,hj2,hk1⟩
 ·dsimp only at e ⊢
  subst e;exact Om ⟨f1,f2,rs,rfl,hm⟩
 dsimp only at e eo L hi hj hi2 hj2 hk1 ⊢;subst e eo;refine On (W.rule (On (Os (D:=λc b1=>LpR O b xs ys c.1 b1\/LpH O b xs ys (i1+j1) c.1 c.2.2.2.1 c.2.1 c.2.2.1 b1) (λk c b1=>LpH O b xs ys (i1+j1+1 - (xs.size+ys.size - k)) c.1 c.2.2.2.1 c.2.1 c.2.2.1 b1) ⟨f1,f2,rfl,_,by simp only[Ed,kme,kmp,kmr,kma],L,by dsimp only;lia,by dsimp only;lia,by dsimp only;lia,by dsimp only;lia,by dsimp only;lia⟩ ?_ ?_ |>.mono λc b1 hc=>?_)))
 ·rintro x k ⟨r,i,j,o,g,ca,cb⟩ b1 ⟨f1,f2,e,os,eo,L,hi,hj,hi2,hj2,hk⟩
  dsimp only at e eo hi hj hi2 hj2 hk L ⊢;subst e;revert g;refine W.jn (λ_=>?_) λg=>On (W.setMG ?_)
  ·rfl
  refine On (Oq ⋯ (On (W.gal' (ny _ ⋯) nx ⋯ ⋯ λK hK=>?_)));dsimp only;obtain⟨c9,hc9⟩:∃c,c=i - K:=⟨_,rfl⟩
  rw[<-hc9];clear hc9;have P0:∃os:Array Nat,o=os.map (kas_item O.it)/\Ph xs ys os i j/\0<i/\i<=xs.size/\i+j+1<=i1+j1+1 - (xs.size+ys.size - (k+1))/\K<=i:=⟨os,eo,L,hi,hi2,hk,hK⟩
  clear eo L hi hi2 hk hK os;revert P0;revert i o;have sw:∀{F:Array Keyed->Nat->Prop},(∀o i,F o i)->∀i o,F o i:=λh i o=>h o i
  refine sw ?_;refine W.jn3 (P:=λo i=>∃os:Array Nat,o=os.map (kas_item O.it)/\Ph xs ys os i j/\0<i/\i<=xs.size/\i+j+1<=i1+j1+1 - (xs.size+ys.size - (k+1))) ?_ (λo i h _=>by obtain⟨os,eo,L,hi,hi2,hk,_⟩:=h;exact⟨os,eo,L,hi,hi2,hk⟩) ?_
  ·rintro o i ⟨os,eo,L,hi,hi2,hk,hK⟩ z hF
   replace L:=L.aa hK;exact Ot (λ_=>Om (Fh ⟨f1,f2,_,by rw[eo];simp only[Ed,kme,kmp,kmr,kma],L.dn⟩)) λ_=>hF (o++((xs.map (kas_item O.it)).extract K i).reverse) K ⟨_,by rw[eo];simp only[Ed,kme,kmp,kmr,kma],L,by lia,by lia,by lia⟩
  rintro o i ⟨os,eo,L,hi,hi2,hk⟩;refine On (Oq ⋯ ?_);replace L:=L.b1 ⋯ hj2;refine Ot (λ_=>Om (Fh ⟨f1,f2,_,by rw[eo];simp only[Ed,kme,kmp,kmr,kma],L.fb⟩)) λ_=>?_
  refine On (Oq ⋯ (On (W.gal' (nx _ ⋯) ny ⋯ ⋯ λK' hK'=>?_)));dsimp only;obtain⟨o2,ho2⟩:∃o2,o2=o.push (kas_item O.it (ys.getD (j - 1) 0)):=⟨_,rfl⟩
  rw[<-ho2];obtain⟨j2,hj3⟩:∃j2,j2=j - 1:=⟨_,rfl⟩
  rw[<-hj3]at L hK' ⊢;obtain⟨c8,hc8⟩:∃c,c=j2 - K':=⟨_,rfl⟩
  rw[<-hc8];clear hc8;have P0:∃os:Array Nat,o2=os.map (kas_item O.it)/\Ph xs ys os i j2/\1<j2/\j2<=ys.size/\i+j2+2<=i1+j1+1 - (xs.size+ys.size - (k+1))/\K'<=j2:=⟨_,by rw[ho2,eo];rw[hj3];simp only[kmp],L,by lia,by lia,by lia,hK'⟩
  clear ho2 hj3 eo L hK' os;revert P0;revert o2 j2;refine W.jn3 (P:=λo j=>∃os:Array Nat,o=os.map (kas_item O.it)/\Ph xs ys os i j/\1<j/\j<=ys.size/\i+j+2<=i1+j1+1 - (xs.size+ys.size - (k+1))) ?_ (λo j h _=>by obtain⟨os,eo,L,hj,hj2,hk,_⟩:=h;exact⟨os,eo,L,hj,hj2,hk⟩) ?_
  ·rintro o j ⟨os,eo,L,hj,hj2,hk,hK⟩ z hF
   replace L:=L.bb hK;exact Ot (λ_=>Om (Fh ⟨f1,f2,_,by rw[eo];simp only[Ed,kme,kmp,kmr,kma],L.fb⟩)) λ_=>Ot (λ_=>Om (Fh ⟨f1,f2,_,by rw[eo];simp only[Ed,kme,kmp,kmr,kma],L.dn⟩)) λ_=>hF (o++((ys.map (kas_item O.it)).extract K' j).reverse) K' ⟨_,by rw[eo];simp only[Ed,kme,kmp,kmr,kma],L,by lia,by lia,by lia⟩
  rintro o j ⟨os,eo,L,hj,hj2,hk⟩;refine On (Oq ⋯ ?_);replace L:=L.a1 ⋯ ⋯;exact Ot (λ_=>Om (Fh ⟨f1,f2,_,by rw[eo];simp only[Ed,kme,kmp,kmr,kma],L.dn⟩)) λ_=>Oo (λ_=>Om (IR ⟨f1,f2,rfl,_,by rw[eo];simp only[Ed,kme,kmp,kmr,kma],L,by dsimp only;lia,by dsimp only;lia,by dsimp only;lia,by dsimp only;lia,by dsimp only;lia⟩)) λ_=>Om ⟨f1,f2,rfl,_,by rw[eo];simp only[Ed,kme,kmp,kmr,kma],L,by dsimp only;lia,by dsimp only;lia,by dsimp only;lia,by dsimp only;lia,by dsimp only;lia⟩
 ·rintro⟨r,i,j,o,ca,cb⟩ b1 ⟨f1,f2,_,os,_,L,hi,hj,hi2,hj2,hk⟩
  dsimp only at hi hj hi2 hj2 hk;lia
 obtain⟨r,i2,j2,o,g2,ca,cb⟩:=c;rcases hc with⟨f1,f2,rs,e,hm⟩|⟨f1,f2,e,os,eo,L,hi,hj,hi2,hj2,hk2⟩
 ·dsimp only at e ⊢
  subst e;exact Om ⟨f1,f2,rs,rfl,hm⟩
 dsimp only at e eo L hi hj hi2 hj2 hk2 ⊢;subst e eo;exact On (W.setMG (Om ⟨f1,f2,rfl,_,by simp only[Ed,kme,kmp,kmr,kma],L,by dsimp only;lia,by dsimp only;lia,by dsimp only;lia,by dsimp only;lia,by dsimp only;lia⟩))
noncomputable def Gp:Nat->List (Nat×Nat×Nat)->Nat->Prop
 | s,[],t=>s=t
 | s,d::ds,t=>d.1=s/\0<d.2.1/\Gp (s+d.2.1) ds t
theorem Gp.le:∀{s t:Nat}{ds:List (Nat×Nat×Nat)},Gp s ds t->s<=t
 | _,_,[],h=>Gy h
 | _,_,_::_,h=>by have:=h.2.2.le;lia
theorem Gp.push{n z:Nat}(hn:0<n):∀{s t:Nat}{ds:List (Nat×Nat×Nat)},Gp s ds t->Gp s (ds++[(t,n,z)]) (t+n)
 | _,_,[],h=>⟨Eq.symm h,hn,congrArg (· + n) h⟩
 | _,_,_::_,h=>⟨h.1,h.2.1,Gp.push hn h.2.2⟩
theorem Gp.pow{f:Nat×Nat×Nat->Nat×Nat×Nat}(hf:∀d,(f d).1=d.1/\(f d).2.1=d.2.1):∀{s t:Nat}{ds:List (Nat×Nat×Nat)}(i:Nat),Gp s ds t->Gp s (ds.modify i f) t
 | _,_,[],i,h=>by simpa using h
 | _,_,d::ds,0,h=>by
  rw[List.modify_zero_cons];unfold Gp;rw[(hf d).1,(hf d).2];exact h
 | _,_,d::ds,i+1,h=>by
  rw[List.modify_succ_cons];exact⟨h.1,h.2.1,Gp.pow hf i h.2.2⟩
theorem Gp.mer:∀{s t n:Nat}{ds:List (Nat×Nat×Nat)},Gp s ds t->n+1<ds.length->∃u nu pw nv pw2,ds[n]? = some (u,nu,pw)/\ds[n+1]? = some (u+nu,nv,pw2)/\0<nu/\0<nv/\u+nu+nv<=t/\Gp s ((ds.set n (u,nu+nv,pw)).eraseIdx (n+1)) t
 | _,_,0,(u,nu,pw)::(w,nv,pw2)::ds,h,_=>by
  obtain⟨e,l1,e2,l2,g⟩:=h;dsimp only at e e2 l1 l2 g;subst e e2;exact⟨_,_,_,_,_,rfl,rfl,l1,l2,g.le,rfl,by show 0<nu+nv;lia,by rw[G4]at g;exact g⟩
 | _,_,n+1,d::ds,h,hn=>by
  obtain⟨u,nu,pw,nv,pw2,e1,e2,l1,l2,l3,g⟩:=Gp.mer (n:=n) h.2.2 (by simpa using hn);exact⟨u,nu,pw,nv,pw2,e1,e2,l1,l2,l3,h.1,h.2.1,g⟩
 | _,_,0,[],_,hn=>by simp at hn
 | _,_,0,[_],_,hn=>by simp at hn
 | _,_,_+1,[],_,hn=>by simp at hn
def Pg(O:Orc)(t:Nat)(b:Ab):Prop:=b.p.Perm (FE (DZ O.N))/\Gp 0 b.pd.toList t
variable{t n lo nrem:Nat}
theorem Pg.sz(v:Pg O t b):b.p.size=O.N:=(zk v.1).sz
theorem Pg.bd(v:Pg O t b):∀k,k<b.p.size->b.p.getD k 0<O.N:=λk hk=>(zk v.1).bd k (by rw[v.sz]at hk;exact hk)
theorem Pg.push(v:Pg O t b)(hn:1<=n):Pg O (t+n) { b with pd:=b.pd.push (t,n,0) }:=⟨v.1,by rw[Hz];exact v.2.push hn⟩
theorem Pg.pow(v:Pg O t b){z:Nat}:Pg O t { b with pd:=b.pd.modify (b.pd.size - 1) λx=>(x.1,x.2.1,z) }:=⟨v.1,by rw[Array.toList_modify];exact v.2.pow (f:=λx=>(x.1,x.2.1,z)) (λd=>⟨rfl,rfl⟩) _⟩
theorem W.ltv{Q:Option Bool->Ab->Prop}(v:Pg O t b)(hi:i<O.N)(hj:j<O.N)(h:∀c,Q (some c) b):W O (ltAt' i j) Q b:=W.ltAt (by rw[v.sz];exact hi) (by rw[v.sz];exact hj) v.bd (h _)
theorem W.rvv{Q:Unit->Ab->Prop}(v:Pg O t b)(h:∀b1,Pg O t b1->Q () b1):W O (reverseSlice' i j) Q b:=by
 rw[reverseSlice'_eq];exact W.modify { b with p:=mirror b.p i j ((j - i) / 2) } (congrArg (λz=>F7 O.κ z b.pd b.mg none) (kas_swaps_map (kas_item O.it) (λk=>i+k) (λk=>j - 1 - k) _ _)) (h _ ⟨(mirror_perm _ _ _ _).trans v.1,v.2⟩)
theorem W.mvv{Q:Unit->Ab->Prop}(v:Pg O t b)(h:∀b1,Pg O t b1->Q () b1):W O (moveDown' i j) Q b:=by
 rw[moveDown'_eq];exact W.modify { b with p:=bubble b.p i (i - j) } (congrArg (λz=>F7 O.κ z b.pd b.mg none) (kas_swaps_map (kas_item O.it) (λk=>i - k) (λk=>i - k - 1) _ _)) (h _ ⟨(bubble_perm _ _ _).trans v.1,v.2⟩)
theorem W.mAt'{Q:Bool->Ab->Prop}(v:Pg O t b)(ht:t<=O.N)(hn:n+1<b.pd.size)(h:∀b1,Pg O t b1->Q true b1):W O (mergeAt' n) Q b:=by
 obtain⟨p,pd,mg⟩:=b;have hs:p.size=O.N:=v.sz;have nn:∀k,k<p.size->p.getD k 0<O.N:=v.bd
 obtain⟨u,nu,pw,nv,pw2,d1,d2,l1,l2,l3,g⟩:=v.2.mer (n:=n) (by simpa using hn);obtain⟨v,_⟩:=v;rw[zt];refine On (W.get ?_);have hp:pendingOf (Ab.st O ⟨p,pd,mg⟩)=pd:=rfl;have ha:arrOf (Ab.st O ⟨p,pd,mg⟩)=p.map (kas_item O.it):=rfl;simp only[Gb]at d1 d2;simp only[hp,ha,d1,d2];refine On (W.set ⟨p,(pd.setIfInBounds n (u,nu+nv,pw)).eraseIdxIfInBounds (n+1),mg⟩ rfl ?_);have g:Gp 0 ((pd.setIfInBounds n (u,nu+nv,pw)).eraseIdxIfInBounds (n+1)).toList t:=by simpa using g
 generalize (pd.setIfInBounds n (u,nu+nv,pw)).eraseIdxIfInBounds (n+1)=pd' at g ⊢;refine On (Oq ⋯ (On (W.gal' (nn _ ⋯) nn ⋯ l1 λK hK=>?_)));dsimp only;refine Ot (λ_=>Om (h _ ⟨v,g⟩)) λq=>?_
 refine On (Oq ⋯ (On (W.gal' (nn _ ⋯) nn ⋯ ⋯ λK' hK'=>?_)));dsimp only;refine Ot (λ_=>Om (h _ ⟨v,g⟩)) λq'=>?_
 simp only[kme];have x1:(p.extract (u+K) (u+nu)).size=nu - K:=by rw[Hk];lia
 have x2:(p.extract (u+nu) (u+nu+K')).size=K':=by rw[Hk];lia
 have e0:=fG (xs:=p) (i:=u+K) (k:=u+nu) ⋯;rw[fG (xs:=p) (i:=u+nu) (k:=u+nu+K') ⋯]at e0;have gx:∀i a c,a<=c->c<=p.size->i<(p.extract a c).size->(p.extract a c).getD i 0<O.N:=λi a c h1 h2 hi=>by
  rw[Hk]at hi;have:=nn (a+i) ⋯;simp only[Array.getD_eq_getD_getElem?,Array.getElem?_extract]at this ⊢;rw[if_pos ⋯];exact this
 have gx1:∀i,i<(p.extract (u+K) (u+nu)).size->(p.extract (u+K) (u+nu)).getD i 0<O.N:=λi=>gx i _ _ ⋯ ⋯
 have gx2:∀i,i<(p.extract (u+nu) (u+nu+K')).size->(p.extract (u+nu) (u+nu+K')).getD i 0<O.N:=λi=>gx i _ _ ⋯ ⋯
 generalize p.extract (u+K) (u+nu)=xs at x1 e0 gx1 ⊢;generalize p.extract (u+nu) (u+nu+K')=ys at x2 e0 gx2 ⊢;have fin:∀(rs:Array Nat) (mg':Nat),rs.toList.Perm (xs.toList++ys.toList)->W O (do
   _root_.modify λst=>setArr st ((rs.map (kas_item O.it)).toList.zipIdx.foldl (λz x=>z.setIfInBounds (u+K+x.2) x.1) (arrOf st))
   let st <-Mp
   NS (failedOf st).isNone) Q ⟨p,pd',mg'⟩:=by
  intro rs mg' hm;have hl:rs.toList.length=nu - K+K':=by rw[hm.length_eq,D8,E8,E8,x1,x2]
  have hfs:=mS (rs.map (kas_item O.it)).toList 0 (u+K) (p.map (kas_item O.it)) (by rw[LV,DT,hl,Ed];lia);refine On (W.modify ⟨FE (p.toList.take (u+K)++(rs.toList++p.toList.drop (u+nu+K'))),pd',mg'⟩ (congrArg (λz=>F7 O.κ z pd' mg' none) (HR.mp ?_)) (On (W.get (Om (h _ ⟨?_,g⟩)))))
  ·refine hfs.trans ?_
   simp only[LV,DT,hl,D0,Gi,GG,EA,Hm];rw[show u+K+(nu - K+K')=u+nu+K' by lia]
  ·refine N4 (G5.mpr ?_) v
   show(p.toList.take (u+K)++(rs.toList++p.toList.drop (u+nu+K'))).Perm p.toList
   have:=EW (u+K) p.toList;rw[e0,<-EA]at this;refine Hf ?_ (N8 this);rw[EA];refine(?_:List.Perm _ _).append_left _;rw[<-EA];exact hm.append_right _
 exact Oo (λ_=>On (W.mLo' gx1 gx2 ⋯ ⋯ λrs mg' hm=>fin rs mg' hm)) λ_=>On (W.mHi' gx1 gx2 ⋯ ⋯ λrs mg' hm=>fin rs mg' hm)
theorem W.cnt'{Q:Option Nat->Ab->Prop}(v:Pg O t b)(h1:1<=nrem)(hN:lo+nrem<=O.N)(h:∀n b1,1<=n->n<=nrem->Pg O t b1->Q (some n) b1):W O (countRun' lo nrem) Q b:=by
 rw[countRun'_eq];refine On (Os (D:=λc b1=>Pg O t b1/\c.1=none/\1<=c.2/\c.2<=nrem) (λk c b1=>Pg O t b1/\c.1=none/\1<=c.2/\c.2+k<=nrem) ⟨v,rfl,by dsimp only;lia,by dsimp only;lia⟩ ?_ (λ_ _ h=>h) |>.mono λc b1 hc=>?_)
 ·rintro x k ⟨r,m⟩ b1 ⟨v,e,q1,q2⟩
  dsimp only at e q1 q2 ⊢;subst e;refine On (W.ltv v ⋯ ⋯ λc=>?_);exact Oo (λ_=>Om ⟨v,rfl,by dsimp only;lia,by dsimp only;lia⟩) λ_=>Om ⟨v,rfl,by dsimp only;lia,by dsimp only;lia⟩
 obtain⟨r,m⟩:=c;obtain⟨v,e,m1,m2⟩:=hc;dsimp only at e m1 m2 ⊢;subst e;dsimp only;refine Ot (λ_=>Om (h _ _ m1 m2 v)) λq=>?_
 refine Oo (λ_=>On (W.ltv v ⋯ ⋯ λc=>Oo (λ_=>Om (h _ _ m1 m2 v)) λ_=>On (W.rvv v λb1 v=>?_))) λ_=>?_
 all_goals
  refine On (W.rule ?_);refine On (Os (D:=λc b1=>Pg O t b1/\c.1=none/\1<=c.2.1/\c.2.1<=nrem) (λk c b1=>Pg O t b1/\c.1=none/\1<=c.2.1/\c.2.1+k<=nrem) ⟨v,rfl,by dsimp only;lia,by dsimp only;lia⟩ ?_ (λ_ _ h=>h) |>.mono λc b1 hc=>?_)
  ·rintro x k ⟨r,m,e2⟩ b1 ⟨v,e,q1,q2⟩
   dsimp only at e q1 q2 ⊢;subst e;refine On (W.ltv v ⋯ ⋯ λc=>?_);refine Oo (λ_=>Oo (λ_=>On (W.rvv v λb1 v=>Om ⟨v,rfl,by dsimp only;lia,by dsimp only;lia⟩)) λ_=>Om ⟨v,rfl,by dsimp only;lia,by dsimp only;lia⟩) λ_=>On (W.ltv v ⋯ ⋯ λc=>?_)
   exact Oo (λ_=>Om ⟨v,rfl,by dsimp only;lia,by dsimp only;lia⟩) λ_=>Om ⟨v,rfl,by dsimp only;lia,by dsimp only;lia⟩
  obtain⟨r,m,e2⟩:=c;obtain⟨v,e,m1,m2⟩:=hc;dsimp only at e m1 m2 ⊢;subst e;dsimp only;refine Oo (λ_=>On (W.rvv v λb1 v=>On (W.rvv v λb1 v=>?_))) λ_=>On (W.rvv v λb1 v=>?_)
  all_goals
   refine On (Os (D:=λc b1=>Pg O t b1/\c.1=none/\1<=c.2/\c.2<=nrem) (λk c b1=>Pg O t b1/\c.1=none/\1<=c.2/\c.2+k<=nrem) ⟨v,rfl,by dsimp only;lia,by dsimp only;lia⟩ ?_ (λ_ _ h=>h) |>.mono λc b1 hc=>?_)
   ·rintro x k ⟨r,m⟩ b1 ⟨v,e,q1,q2⟩
    dsimp only at e q1 q2 ⊢;subst e;refine On (W.ltv v ⋯ ⋯ λc=>?_);exact Oo (λ_=>Om ⟨v,rfl,by dsimp only;lia,by dsimp only;lia⟩) λ_=>Om ⟨v,rfl,by dsimp only;lia,by dsimp only;lia⟩
   obtain⟨r,m⟩:=c;obtain⟨v,e,m1,m2⟩:=hc;dsimp only at e m1 m2 ⊢;subst e;exact Om (h _ _ m1 m2 v)
theorem W.bin'{ok:Nat}{Q:Bool->Ab->Prop}(v:Pg O t b)(hN:lo+n<=O.N)(hok:max ok 1<=n)(h:∀b1,Pg O t b1->Q true b1):W O (binarySort' lo n ok) Q b:=by
 rw[binarySort'_eq];refine On (W.rangeV (D:=λc b1=>Pg O t b1/\c.1=none) (λ_ c b1=>Pg O t b1/\c.1=none) hok ⟨v,rfl⟩ ?_ (λ_ _ h=>h) |>.mono λc b1 hc=>?_)
 ·rintro k ⟨r,u⟩ b1 hk1 hk2 ⟨v,e⟩
  dsimp only at e ⊢;subst e;refine On (Os (D:=λc b1=>Pg O t b1/\c.1=none) (λ_ c b1=>Pg O t b1/\c.1=none/\c.2.2<=k) ⟨v,rfl,DY _⟩ ?_ (λ_ _ h=>⟨h.1,h.2.1⟩) |>.mono λc b1 hc=>?_)
  ·rintro x j ⟨r,l,z⟩ b1 ⟨v,e,q⟩
   dsimp only at e q ⊢;subst e;refine Oo (λ_=>Om ⟨v,rfl⟩) λ_=>On (W.ltv v ⋯ ⋯ λc=>?_)
   exact Oo (λ_=>Om ⟨v,rfl,by dsimp only;lia⟩) λ_=>Om ⟨v,rfl,by dsimp only;lia⟩
  obtain⟨r,l,z⟩:=c;obtain⟨v,e⟩:=hc;dsimp only at e ⊢;subst e;exact On (W.mvv v λb1 v=>Om ⟨v,rfl⟩)
 obtain⟨r,u⟩:=c;obtain⟨v,e⟩:=hc;dsimp only at e ⊢;subst e;exact Om (h _ v)
theorem W.runs'{Q:Unit->Ab->Prop}(h:∀b1:Ab,b1.p.toList.Perm (DZ O.N)->Q () b1):W O sortRuns' Q ⟨FE (DZ O.N),#[],7⟩:=by
 rw[sortRuns'_eq];refine On (W.get ?_);have hz:(arrOf (Ab.st O ⟨FE (DZ O.N),#[],7⟩)).size=O.N:=by
  show((FE (DZ O.N)).map (kas_item O.it)).size=O.N
  simp
 simp only[hz];generalize minRun' O.N O.N 0=mr;refine On (Os (D:=λc b1=>c.1=none/\∃t,Pg O t b1/\t<=O.N) (λ_ c b1=>c.1=none/\Pg O c.2 b1/\c.2<=O.N) ⟨rfl,by exact⟨N9 _,rfl⟩,Ec _⟩ ?_ (λ_ _ h=>⟨h.1,_,h.2⟩) |>.mono λc b1 hc=>?_)
 ·rintro x k ⟨r,lo⟩ b1 ⟨e,v,q⟩
  dsimp only at e v q ⊢;subst e;refine Oo (λ_=>Om ⟨rfl,_,v,q⟩) λc0=>On (W.cnt' v ⋯ ⋯ λn b1 n1 n2 v=>?_)
  dsimp only;refine Oo (λ_=>On (W.rule (On (W.bin' v ⋯ ⋯ λb1 v=>?_)))) λ_=>?_
  all_goals try
   simp only[GF,ER,if_false];replace n1:1<=min (O.N - lo) mr:=by lia
   replace n2:min (O.N - lo) mr<=O.N - lo:=by lia
   generalize min (O.N - lo) mr=n at n1 n2 ⊢
  all_goals
   refine On (W.get ?_);have hp:pendingOf (Ab.st O b1)=b1.pd:=rfl;simp only[hp];cases b1.pd.back? with
   | none=>exact On (W.modify { b1 with pd:=b1.pd.push (lo,n,0) } rfl (Om ⟨rfl,v.push n1,by dsimp only;lia⟩))
   | some w9=>
    dsimp only;generalize power' _ _ _ _=pw9;refine On (Os (D:=λc b2=>c.1=none/\Pg O lo b2) (λ_ c b2=>c.1=none/\Pg O lo b2) ⟨rfl,v⟩ ?_ (λ_ _ h=>h) |>.mono λc b2 hc=>?_)
    ·rintro x k ⟨r2,u2⟩ b2 ⟨e,v⟩
     dsimp only at e;subst e;refine On (W.get ?_);have hp:pendingOf (Ab.st O b2)=b2.pd:=rfl;simp only[hp];cases ho:(if b2.pd.size > 1 then b2.pd[b2.pd.size - 2]? else none)with
     | none=>exact Om ⟨rfl,v⟩
     | some w8=>
      have hgt:b2.pd.size > 1:=by
       by_cases q:b2.pd.size > 1
       ·exact q
       ·rw[if_neg q]at ho;cases ho
      dsimp only;refine Oo (λ_=>Om ⟨rfl,v⟩) λ_=>On (W.mAt' v q ⋯ λb3 v=>?_)
      simp only[GF,ER,if_false];exact Om ⟨rfl,v⟩
    obtain⟨r2,u2⟩:=c;obtain⟨e,v⟩:=hc;dsimp only at e ⊢;subst e;exact On (W.modify { b2 with pd:=b2.pd.modify (b2.pd.size - 1) λx=>(x.1,x.2.1,pw9) } rfl (On (W.modify { b2 with pd:=(b2.pd.modify (b2.pd.size - 1) λx=>(x.1,x.2.1,pw9)).push (lo,n,0) } rfl (Om ⟨rfl,v.pow.push n1,by dsimp only;lia⟩))))
 obtain⟨r,lo⟩:=c;obtain⟨e,t,v,q⟩:=hc;dsimp only at e ⊢;subst e;refine On (Os (D:=λc b2=>c.1=none/\Pg O t b2) (λ_ c b2=>c.1=none/\Pg O t b2) ⟨rfl,v⟩ ?_ (λ_ _ h=>h) |>.mono λc b2 hc=>?_)
 ·rintro x k ⟨r,u⟩ b2 ⟨e,v⟩
  dsimp only at e;subst e;refine On (W.get ?_);have hp:pendingOf (Ab.st O b2)=b2.pd:=rfl;simp only[hp];refine Oo (λ_=>Om ⟨rfl,v⟩) λc1=>On (W.mAt' v q (by(repeat' split)<;>lia) λb3 v=>?_)
  simp only[GF,ER,if_false];exact Om ⟨rfl,v⟩
 obtain⟨r,u⟩:=c;obtain⟨e,v⟩:=hc;dsimp only at e ⊢;subst e;exact Om (h _ (by simpa using G5.mp v.1))
end
end L2
namespace HT
open PySem PyProof.Rows PySem.W L2
theorem tP{prog:Program}{w:World}{A:Around}{E:Value->Shared->Prop}{s:Shared}{κ:SortKind}{lt:Nat->Nat->Bool}{ks vs:List Value}{I:Shared->Prop}(hl:ks.length=vs.length)(hI:I s)
  (hc:∀i j s',i<vs.length->j<vs.length->I s'->wpAny (model prog w) A (keyLt' κ (ks.getD i EN) (ks.getD j EN)) (λb s''=>b=lt i j/\I s'') (λ_ _=>False) s') :
  wpAny (model prog w) A ((sortRuns').run (F7 κ (ks.toArray.zip vs.toArray) #[] 7 none))
   (λr s'=>∃p:Array Nat,arrOf r.2=p.map (kas_item (ks.toArray.zip vs.toArray))/\failedOf r.2=none/\p.size=vs.length/\I s'/\p.toList.Perm (DZ vs.length)) E s:=by
 have hc':∀i j s',i<vs.length->j<vs.length->I s'->kas_cmp prog w A κ (ks.toArray.zip vs.toArray) i j (λb s''=>b=lt i j/\I s'') s':=λi j s' hi hj hs=>by
  have:=hc i j s' hi hj hs;rw[<-kat_ask_eq (prog:=prog) (w:=w) (A:=A) (κ:=κ) hl];exact this
 have run:=W.runs' (O:=⟨prog,w,A,E,κ,ks.toArray.zip vs.toArray,vs.length,lt,I,hc'⟩) (Q:=λ_ b'=>b'.p.toList.Perm (DZ vs.length)) (λ_ h=>h) s hI;have est:F7 κ (ks.toArray.zip vs.toArray) #[] 7 none=Ab.st ⟨prog,w,A,E,κ,ks.toArray.zip vs.toArray,vs.length,lt,I,hc'⟩ ⟨FE (DZ vs.length),#[],7⟩:=by
  have e:=kas_range (ks.toArray.zip vs.toArray);rw[show(ks.toArray.zip vs.toArray).size=vs.length by simp[hl]]at e;show F7 κ (ks.toArray.zip vs.toArray) #[] 7 none=F7 κ ((FE (DZ vs.length)).map (kas_item (ks.toArray.zip vs.toArray))) #[] 7 none
  rw[e]
 rw[est];refine OD run (λr s' hr=>?_) λ_ _ z=>z
 obtain⟨hi,b',eb,p1⟩:=hr;obtain⟨u,st⟩:=r;have eb:st=Ab.st _ b':=eb;subst eb;exact⟨b'.p,rfl,rfl,by rw[<-E8,p1.length_eq,Ff],hi,p1⟩
section
variable{prog:Program}{w:World}{A:Around}{E:Value->Shared->Prop}{s:Shared}
theorem jP {vs:List Value}{κ:SortKind}{lt:Nat->Nat->Bool}{P:NT->Shared->Prop}(ho:s.heap.get? a=some (OH "list" vs.toArray n)) (h64:vs.length<1000)
  (hk:∀h' (Q:SortKind->Shared->Prop),2<=vs.length->(∀b o,b≠a->s.heap.get? b=some o->h'.get? b=some o)->Q κ { s with heap:=h' }->wpAny (model prog w) A (keyKind' vs.toArray) Q (λ_ _=>False) { s with heap:=h' })
  (hc:∀h' i j (Q:Bool->Shared->Prop),i<vs.length->j<vs.length->(∀b o,b≠a->s.heap.get? b=some o->h'.get? b=some o)->Q (lt i j) { s with heap:=h' }->
   wpAny (model prog w) A (keyLt' κ (vs.getD i EN) (vs.getD j EN)) Q (λ_ _=>False) { s with heap:=h' })
  (h:∀p:List Nat,p.Perm (DZ vs.length)->P (.done (.ret .none)) { s with heap:=sortedHeap s.heap a vs (FE (p.map λi=>vs.getD i EN)) }) :
  wpAny (model prog w) A (Builtin.«list.sort» ⟨[.ref a],[]⟩) P E s:=by
 rw[list_sort_plain];have ha:a<s.heap.objs.size:=D2 ho;refine Ov (listItems_at ho rfl ?_);refine Ov (listUpdate_at ho rfl ?_ (by rw[D9,OW];lia) (Ec _));obtain⟨e1,ho1⟩:∃e1,(s.heap.update a (E6 λ_=>(#[]:Array Value))).get? a=some (OH "list" #[] e1):=⟨_,get?_update_seq ho (λ_=>#[])⟩
 refine Ov (seqEpoch_at ho1 rfl ?_);refine Ov (wpAny_newTuple ?_ (by show vs.length<=_;rw[OW];lia));refine Ov (wpAny_newList ?_ (Ec _));refine Oy ?_;have ho6:(((s.heap.update a (E6 λ_=>(#[]:Array Value))).push (OH "tuple" vs.toArray 0)).push (OH "list" #[] 0)).get? a=some (OH "list" #[] e1):=by
  rw[HH _ _ _ (by rw[size_push',Ib];exact Eh (FY ha)),HH _ _ _ (by rw[Ib];exact Eh ha)];exact ho1
 have kp:∀b o,b≠a->s.heap.get? b=some o->(((s.heap.update a (E6 λ_=>(#[]:Array Value))).push (OH "tuple" vs.toArray 0)).push (OH "list" #[] 0)).get? b=some o:=λb o hb e=>by
  have hlt:=D2 e;rw[HH _ _ _ (by rw[size_push',Ib];exact Eh (FY hlt)),HH _ _ _ (by rw[Ib];exact Eh hlt),Heap.get?_update_ne _ _ _ _ hb];exact e
 show wpAny (model prog w) A _ P E { s with heap:=((s.heap.update a (E6 λ_=>(#[]:Array Value))).push (OH "tuple" vs.toArray 0)).push (OH "list" #[] 0) }
 dsimp only;have hsz:vs.toArray.size=vs.length:=by simp
 by_cases h2:vs.toArray.size<2
 ·rw[if_pos h2,if_pos h2]
  refine Ov (Ow ?_);rw[StateT.run_pure];refine Ov (Ow ?_);dsimp only;refine Ov (seqEpoch_at ho6 rfl ?_);refine Ov (listUpdate_at ho6 rfl ?_ (Ec _) (by rw[Ed];show(pairsOf vs).size<=_;rw[pairsOf_size,OW];lia));simp only[bne_self_eq_false,ER,if_false];have:=h (DZ vs.length) (FP _);have eo:(arrOf (F7 general' (vs.toArray.zip vs.toArray) #[] 7 none)).map (·.2)=FE ((DZ vs.length).map λi=>vs.getD i EN):=by
   have e:=kas_range (vs.toArray.zip vs.toArray);rw[show(vs.toArray.zip vs.toArray).size=vs.length by simp]at e;have:=kat_snds (st:=F7 general' (vs.toArray.zip vs.toArray) #[] 7 none) (ks:=vs) (vs:=vs) rfl e.symm;simpa using this
  rw[<-eo]at this;exact Ow this
 ·rw[if_neg h2,if_neg h2]
  refine Ov (OD (hk _ (λκ' s'=>κ'=κ/\s'={ s with heap:=((s.heap.update a (E6 λ_=>(#[]:Array Value))).push (OH "tuple" vs.toArray 0)).push (OH "list" #[] 0) }) ⋯ kp ⟨rfl,rfl⟩) (λκ' s' hh=>?_) λ_ _ x=>x.elim);obtain⟨rfl,rfl⟩:=hh;refine Ov (OD (tP (ks:=vs) (I:=λs'=>s'={ s with heap:=((s.heap.update a (E6 λ_=>(#[]:Array Value))).push (OH "tuple" vs.toArray 0)).push (OH "list" #[] 0) }) rfl rfl (λi j s' hi hj es=>by subst es;exact hc _ i j _ hi hj kp ⟨rfl,rfl⟩)) ?_ λ_ _ e=>e);rintro⟨⟨⟩,st'⟩ s' ⟨p,har,hf,hp,rfl,q1⟩;dsimp only;have hout:=kat_snds rfl har;rw[hout];refine Ov (seqEpoch_at ho6 rfl ?_);refine Ov (listUpdate_at ho6 rfl ?_ (Ec _) (by rw[D9,DT,E8,hp,OW];lia));rw[hf];simp only[bne_self_eq_false,ER,if_false];exact Ow (h p.toList q1)
theorem ot{v:Value}
  (h:wpAny (model prog w) A.in1 (collect v) (λvs s1=>vs.length<1000/\∃(κ:SortKind) (lt:Nat->Nat->Bool),
   (∀h' (Q':SortKind->Shared->Prop),2<=vs.length->(∀b o,s1.heap.get? b=some o->h'.get? b=some o)->Q' κ { s1 with heap:=h' }->wpAny (model prog w) A.in1.in1 (keyKind' vs.toArray) Q' (λ_ _=>False) { s1 with heap:=h' })/\
   (∀h' i j (Q':Bool->Shared->Prop),i<vs.length->j<vs.length->(∀b o,s1.heap.get? b=some o->h'.get? b=some o)->Q' (lt i j) { s1 with heap:=h' }->
    wpAny (model prog w) A.in1.in1 (keyLt' κ (vs.getD i EN) (vs.getD j EN)) Q' (λ_ _=>False) { s1 with heap:=h' })/\
   ∀p:List Nat,p.Perm (DZ vs.length)->Q (.ref s1.heap.objs.size) { s1 with heap:=sortedHeap (s1.heap.push (OH "list" vs.toArray 0)) s1.heap.objs.size vs (FE (p.map λi=>vs.getD i EN)) }) E s) :
  wpAny (model prog w) A (call (.builtin "sorted") [v]) Q E s:=by
 refine Calls.call_function_entry kind_sorted plain_sorted entry_sorted (args_sorted1 _) ?_;unfold Builtin.«sorted»;refine Ov (m:=checkCount "sorted" 1 1 _) (Ow ?_);refine Ov (OD h (λvs s1 hv=>?_) λ_ _ z=>z);obtain⟨h64,κ,lt,hk,hc,hq⟩:=hv;refine Ov (wpAny_newList ?_ (by rw[OW];lia));have hoL:(s1.heap.push (OH "list" vs.toArray 0)).get? s1.heap.objs.size=some (OH "list" vs.toArray 0):=Ea _ rfl;have ne:∀b o,s1.heap.get? b=some o->b≠s1.heap.objs.size:=λb o q=>Eh (D2 q)
 show wpAny _ _ _ _ _ { s1 with heap:=s1.heap.push (OH "list" vs.toArray 0) }
 refine Ov (Oy (OG slot_list_sort ⟨_,hoL,rfl⟩ entry_list_sort (jP (s:={ s1 with heap:=s1.heap.push (OH "list" vs.toArray 0) }) hoL h64
  (λh' Q' h2 k q=>hk h' Q' h2 (λb o e=>k b o (ne b o e) (DV _ e)) q) (λh' i j Q' hi hj k q=>hc h' i j Q' hi hj (λb o e=>k b o (ne b o e) (DV _ e)) q) λp a1=>⟨_,rfl,?_⟩) (args_list_sort _)))
 exact Ow ⟨_,rfl,hq p a1⟩
end
end HT
namespace L2
open PySem PySem.Spec PyProof.Rows PySem.W
section
variable{X:Cx}{o e f:Expr}{td ty tx:TE}{pos apos cpos p:Pos}
def nc(td:TE):TE:=λσ H Q=>td σ H λx H1=>∃(a:Addr) (ps:List (List Int×Int)),x=.ref a/\H1 a=some (.dT (ps.map λq=>(gc q.1,Of q.2)))/\ps.length<1000/\
 ∀(d:Addr) (as qs:List Addr) (zs:List (List Int×Int)) H',H1 d=none->Same H1 H'->H' d=some (.lst (as.map Ou))->as.length=zs.length->qs.length=zs.length->zs.Perm ps->
  (∀(i:Nat) a q z,as[i]? = some a->qs[i]? = some q->zs[i]? = some z->H' a=some (.tup [.ref q,.int z.2])/\H' q=some (.tup (z.1.map Of)))->Q (.ref d) H'
theorem ou (hc:X.calm=true) (hu:X.A.units+64<cLine) (hg:Gl X "sorted") (hm:X.mg "sorted" = none) (ho:QE X o td) (hbase:attributeBase o ("items" : Str) X.env (eval o X.env)=eval o X.env:=by rfl) (hline:(apos.endLine == cpos.line)=true:=by rfl) :
  QE X (.Call (.Name "sorted" p) [.Call (.Attribute o "items" apos) [] [] cpos] [] pos) (nc td):=by
 refine⟨λpins s σ H Q I h=>?_⟩;refine Call_ (de I hg hm (by decide +kernel:bootBuiltins "sorted" = some (.builtin "sorted")) (F6 rfl (Il ?_)));refine GI (wpAny_Call_method0_late hbase hline (thn (ho.out pins s σ H _ I h) λv s1 ⟨x,H1,I1,rx,q1⟩=>?_));obtain⟨a,ps,rfl,ha,h64,q⟩:=q1;obtain rfl:v=Ep a:=rx;obtain⟨z,hd,xs,rel,ob,es,ep,e1,e2,e3,e4,e5⟩:=(show ObjOk X.prog X.w H1 s1.heap a (.dT _)from I1.hok a _ ha);have hD:HT.RawD s1.heap a es ep:=⟨ob,e1,e2,e3⟩;refine⟨"dict","dict.items",JM,JQ,PySem.F.type_dict_items,⟨ob,e1,e2.1⟩,λb w'=>by cases w';exact⟨ob,e1,e2.2.1⟩,F6 rfl (KO ?_)⟩;refine HT.qF hD hd (Hx ?_);have I2:Inv X pins σ H1 { s1 with heap:=s1.heap.push { cls:=.type "dict_items",data:=.fields #[.ref a] } }:=I1.kept (t':=s1.toks) λb u w'=>DV _ w'
 have lxs:xs.length=ps.length:=by have:=rel.length;rw[DT]at this;exact this.symm
 have les:es.size=ps.length:=by rw[<-E8,e4,DT,lxs]
 -- the j-th entry
 have ent:∀(j:Nat) x,es[j]? = some x->∃z k,ps[j]? = some z/\x.key=.ref k/\RelV (.int z.2) x.val/\H1 k=some (.tup (z.1.map Of)):=by
  intro j x hx;rw[<-Gb,e4,DX]at hx;obtain⟨y,hy,rfl⟩:=Fw.mp hx;have hj:j<ps.length:=by rw[<-lxs];exact(D6.mp hy).1
  have hz:(ps.map λq=>(gc q.1,Of q.2))[j]? = some (gc ps[j].1,Of ps[j].2):=by rw[DX];simp[hj]
  obtain⟨r1,r2,r3⟩:=qG rel hz hy;exact⟨ps[j],y.2.1,by simp[hj],rfl,r3,by rw[r2,lI]⟩
 refine HT.ot ?_;refine HT.lH (s:={ s1 with heap:=s1.heap.push { cls:=.type "dict_items",data:=.fields #[.ref a] } }) (I.ok.hd hc) ⟨_,Ea _ rfl,rfl,rfl⟩ (hD.at λo' w'=>DV _ w') (by rw[les,OW];lia) λg tk as kp hl hP=>?_
 have hlp:as.length=ps.length:=by rw[hl,les]
 -- the new tuples,tracked
 obtain⟨qs,hql,hqs⟩:∃qs:List Addr,qs.length=as.length/\∀(j:Nat) b q,as[j]? = some b->qs[j]? = some q->∃z,ps[j]? = some z/\H1 q=some (.tup (z.1.map Of))/\∃t,g.get? b=some { cls:=.type "tuple",data:=.seq #[.ref q,.int z.2 t] }:=by
  have gb:∀j:Nat,∃q:Addr,∀b,as[j]? = some b->∃z,ps[j]? = some z/\H1 q=some (.tup (z.1.map Of))/\∃t,g.get? b=some { cls:=.type "tuple",data:=.seq #[.ref q,.int z.2 t] }:=λj=>by
   cases eb:as[j]? with
   | none=>exact⟨0,λb w'=>nomatch w'⟩
   | some b=>
    obtain⟨x,x1,x2⟩:=hP.2.2 j b eb;obtain⟨z,k,z1,z2,⟨t,z3⟩,z4⟩:=ent j x x1;refine⟨k,λb' w'=>?_⟩;cases w';unfold HT.dy at x2;rw[z2,z3]at x2;exact⟨z,z1,z4,t,x2⟩
  refine⟨(DZ as.length).map λj=>(gb j).choose,by simp,λj b q w1 w2=>?_⟩;have hj:=(D6.mp w1).1;rw[DX,EX hj]at w2;have:=Er w2;subst this;exact(gb j).choose_spec b w1
 have fresh:∀b∈as,s1.heap.objs.size<=b:=λb hb=>by
  have:=hP.1 b hb;rw[show(s1.heap.push { cls:=.type "dict_items",data:=.fields #[.ref a] }).objs.size=s1.heap.objs.size+1 from size_push' ..]at this;exact Fv (Nat.lt_of_succ_lt this)
 have kp1:∀b u,s1.heap.get? b=some u->g.get? b=some u:=λb u w'=>kp b u (DV _ w')
 let ts:List (Addr×HO):=(DZ as.length).map λj=>(as.getD j 0,.tup [.ref (qs.getD j 0),.int (ps.getD j ([],0)).2])
 have gd:∀j,j<as.length->as[j]? = some (as.getD j 0)/\qs[j]? = some (qs.getD j 0)/\ps[j]? = some (ps.getD j ([],0)):=λj hj=>by
  refine⟨?_,?_,?_⟩
  ·rw[DS,DR hj];rfl
  ·rw[DS,DR ⋯];rfl
  ·rw[DS,DR ⋯];rfl
 have tsn:(ts.map (·.1)).Nodup:=by
  have e:ts.map (·.1)=as:=by
   show((DZ as.length).map _).map _=as
   rw[ED];exact jG as 0
  rw[e];exact hP.2.1
 have tsm:∀p∈ts,∃j,j<as.length/\p=(as.getD j 0,.tup [.ref (qs.getD j 0),.int (ps.getD j ([],0)).2]):=λp hp=>by
  obtain⟨j,hj,e⟩:=D4.mp hp;exact⟨j,EF.mp hj,e.symm⟩
 have I3:Inv X pins σ (dj H1 ts) { s1 with heap:=g,toks:=tk }:=by
  refine I1.laidAll kp1 (λp hp=>?_) λp hp=>?_
  ·obtain⟨j,hj,rfl⟩:=tsm p hp
   exact fresh _ (Ew (gd j hj).1)
  ·obtain⟨j,hj,rfl⟩:=tsm p hp
   obtain⟨z,z1,z2,t,z3⟩:=hqs j _ _ (gd j hj).1 (gd j hj).2.1;rw[(gd j hj).2.2]at z1;cases z1;exact⟨by show 2<=Ox;decide,[.ref (qs.getD j 0),.int (ps.getD j ([],0)).2 t],.cons rfl (.cons ⟨t,rfl⟩ .nil),_,z3,rfl,_,rfl⟩
 have sm:Same H1 (dj H1 ts):=λb u w'=>by
  rw[fC λp hp z=>?_]
  ·exact w'
  ·obtain⟨j,hj,rfl⟩:=tsm p hp
   have:=I1.hok.fresh (fresh _ (Ew (gd j hj).1));have z2:as.getD j 0=b:=z;rw[z2,w']at this;cases this
 have tnew:∀j,j<as.length->dj H1 ts (as.getD j 0)=some (.tup [.ref (qs.getD j 0),.int (ps.getD j ([],0)).2]):=λj hj=>kD tsn (D4.mpr ⟨j,EF.mpr hj,rfl⟩)
 have tkey:∀j,j<as.length->dj H1 ts (qs.getD j 0)=some (.tup ((ps.getD j ([],0)).1.map Of)):=λj hj=>by
  obtain⟨z,z1,z2,_⟩:=hqs j _ _ (gd j hj).1 (gd j hj).2.1;rw[(gd j hj).2.2]at z1;cases z1;exact sm _ _ z2
 have lm:(as.map Ep).length=as.length:=DT _;have get:∀i,i<as.length->(as.map Ep).getD i EN=.ref (as.getD i 0):=λi hi=>by
  rw[DS,DS,DX,DR hi];rfl
 have tup:∀(h':Heap),(∀b o,g.get? b=some o->h'.get? b=some o)->∀i,i<as.length->∃us jts,IsTup h' (as.getD i 0) (.ref (qs.getD i 0)::us).toArray/\OI us [(ps.getD i ([],0)).2]/\IsTup h' (qs.getD i 0) jts/\OI jts.toList (ps.getD i ([],0)).1:=λh' hk i hi=>by
  obtain⟨its,r1,⟨o1,ho1,hc1⟩,_⟩:=I3.tuple (Oe (tnew i hi));obtain⟨jts,r2,⟨o2,ho2,hc2⟩,_⟩:=I3.tuple (Oe (tkey i hi));cases r1 with
  | cons rv r1=>
   cases rv;exact⟨_,jts.toArray,⟨o1,hk _ _ ho1,hc1⟩,cB (ns:=[(ps.getD i ([],0)).2]) r1,⟨o2,hk _ _ ho2,hc2⟩,cB r2⟩
 refine⟨by rw[lm];lia,tuples' false,λi j=>HT.lt2 ((ps.map λz=>(z.1,[z.2])).getD i ([],[])) ((ps.map λz=>(z.1,[z.2])).getD j ([],[])),λh' Q' h2 k hQ=>?_,λh' i j Q' hi hj k hQ=>?_,λp hp=>?_⟩
 ·refine HT.tG (fs:=qs.map Ep) h2 (by rw[lm,DT,hql]) (HT.mW (by rw[lm,DT,hql]) (λi v f w1 w2=>?_)) (λf hf=>?_) hQ
  ·rw[DX]at w1 w2
   obtain⟨b,eb,rfl⟩:=Fw.mp w1;obtain⟨c,ec,rfl⟩:=Fw.mp w2;have hi:=(D6.mp eb).1;obtain⟨us,jts,t1,_⟩:=tup h' k i hi;have x1:=(gd i hi).1;rw[eb]at x1;have x2:=(gd i hi).2.1;rw[ec]at x2;rw[Er x1,Er x2];exact⟨_,_,us,rfl,t1,rfl⟩
  ·obtain⟨c,hqm,rfl⟩:=D4.mp hf
   obtain⟨i,hi,rfl⟩:=IB hqm;obtain⟨us,jts,_,_,t2,_⟩:=tup h' k i ⋯;have x2:=(gd i ⋯).2.1;rw[DR hi]at x2;rw[Er x2];exact⟨_,jts,rfl,t2⟩
 ·rw[lm]at hi hj
  obtain⟨us,jts,t1,i1,t2,i2⟩:=tup h' k i hi;obtain⟨us',jts',t1',i1',t2',i2'⟩:=tup h' k j hj;rw[get i hi,get j hj];have ki:(ps.map λz=>(z.1,[z.2])).getD i ([],[])=((ps.getD i ([],0)).1,[(ps.getD i ([],0)).2]):=by rw[DS,DX,(gd i hi).2.2];rfl
  have kj:(ps.map λz=>(z.1,[z.2])).getD j ([],[])=((ps.getD j ([],0)).1,[(ps.getD j ([],0)).2]):=by rw[DS,DX,(gd j hj).2.2];rfl
  dsimp only at hQ;rw[ki,kj]at hQ;exact HT.wG (show X.A.units+1+1<cLine by lia) t1 t1' rfl rfl i1 i1' t2 t2' i2 i2' hQ
 ·have hoL:(g.push (OH "list" (as.map Ep).toArray 0)).get? g.objs.size=some (OH "list" (as.map Ep).toArray 0):=Ea _ rfl
  obtain⟨c,hcc⟩:=sortedHeap_at (out:=FE (p.map λi=>(as.map Ep).getD i EN)) hoL;have hpl:=hp.length_eq;rw[Ff,lm]at hpl;rw[lm]at hp;have pm:∀i∈p,i<as.length:=λi hi=>EF.mp (hp.mem_iff.mp hi)
  refine⟨.ref g.objs.size,_,I3.laid (t':=tk) (λb o' w'=>?_) (DY _) (show ObjOk X.prog X.w _ _ _ (.lst ((p.map λi=>as.getD i 0).map Ou))from⟨?_,_,c,?_,hcc⟩),rfl,?_⟩
  ·have hlt:=D2 w'
   rw[sortedHeap_old (Eh hlt) (by rw[size_push'];exact FY hlt)];exact DV _ w'
  ·rw[DT,DT,hpl,OW];lia
  ·rw[ED]
   refine mU λi hi=>?_
   rw[get i (pm i hi)];rfl
  have fr3:dj H1 ts g.objs.size=none:=I3.hok.fresh (DY _);have smn:Same (dj H1 ts) (upd (dj H1 ts) g.objs.size (.lst ((p.map λi=>as.getD i 0).map Ou))):=λb u w'=>by rw[aB (ay w' fr3)];exact w'
  have fr1:H1 g.objs.size=none:=by
   cases w9:H1 g.objs.size with
   | none=>rfl
   | some u=>have:=sm _ _ w9;rw[fr3]at this;cases this
  refine q g.objs.size (p.map λi=>as.getD i 0) (p.map λi=>qs.getD i 0) (p.map λi=>ps.getD i ([],0)) _ fr1 (λb u w'=>smn _ _ (sm b u w')) aj (by simp) (by simp) ?_ ?_
  ·have:=hp.map (λi=>ps.getD i ([],0))
   rw[hlp,jG]at this;exact this
  ·intro i b c z w1 w2 w3
   rw[DX]at w1 w2 w3;obtain⟨j,ej,rfl⟩:=Fw.mp w1;rw[ej]at w2 w3;cases w2;cases w3;have hj:=pm j (Ew ej);exact⟨smn _ _ (tnew j hj),smn _ _ (tkey j hj)⟩
theorem xN {H:Hp}{Q:VK}(h:td σ H λx H1=>∃(a:Addr) (ps:List (List Int×Int)),x=.ref a/\H1 a=some (.dT (ps.map λq=>(gc q.1,Of q.2)))/\ps.length<1000/\
 ∀(d:Addr) (as qs:List Addr) (zs:List (List Int×Int)) H',H1 d=none->Same H1 H'->H' d=some (.lst (as.map Ou))->as.length=zs.length->qs.length=zs.length->zs.Perm ps->
  (∀(i:Nat) a q z,as[i]? = some a->qs[i]? = some q->zs[i]? = some z->H' a=some (.tup [.ref q,.int z.2])/\H' q=some (.tup (z.1.map Of)))->Q (.ref d) H'):nc td σ H Q:=h
end
def Bgn(bs:List (List Int))(zs:List (List Int×Int)):Prop:=(zs.map (·.1)).Nodup/\(∀r,r∈zs.map (·.1)↔r∈bs)/\∀p∈zs,p.2=(bs.count p.1:Int)
theorem Cn.bgn{bs:List (List Int)}{ps zs:List (List Int×Int)}(h:Cn bs ps)(hp:zs.Perm ps):Bgn bs zs:=by
 have hm:(zs.map (·.1)).Perm (ps.map (·.1)):=hp.map _;exact⟨hm.symm.nodup h.1,λr=>by rw[hm.mem_iff,h.2.1 r],λp hq=>h.2.2 p (hp.mem_iff.mp hq)⟩
end L2
set_option maxHeartbeats 0
namespace Fs
open PySem PySem.Spec PyProof.Rows L2
local macro_rules
 | `(tactic| nofun)=>do
  let q ←("Cz CA Bl CB Bm Bo Dj CC Bp DO CD Dl CF Bq Br DP Dm Do Dp Ap CL BB CM Aq Ar DQ CG CH CN BC As BD Dq Bt CI Bu CJ CK Dk jo Dt Du BE BH CT Ay C1 BM Ax Az AA AC C2 C0 BL Aw CW CY Dx BJ yZ Au CV BQ BN BV BX BW Dv cH B3 B4 C7 AE AF B5 xN AG".splitOn " ").foldrM (fun n (a:Lean.TSyntax `tactic)=>`(tactic| first | (with_reducible refine $(Lean.mkIdent (NU n)) ?_) | $a:tactic)) (←`(tactic| fail))
  `(tactic| (repeat (first | $q:tactic|(with_reducible refine in_xset ?_;dsimp only[E7])|(with_reducible refine sg ?_;dsimp only[E7])|((with_reducible show AM _ _ _ _);refine⟨_,rfl,?_⟩)|(with_reducible refine Bs ?c ?_;(case c=>first|(show(0:Int)<_;omega)|exact Bv (by omega) (by omega)|exact Dr (by omega) (by omega)|exact cdivP (by omega) (by omega) (by omega)|exact Bw (by omega) (by omega)|exact Bx (by omega) (by omega)|exact Ds (by decide) (by decide) (by decide)))|(with_reducible refine yI (by first|assumption|exact aj) ?_;refine⟨_,rfl,?_⟩)|(with_reducible refine vQ (by first|assumption|exact aj) ?_;refine⟨_,rfl,?_⟩)|(with_reducible refine vR (by first|assumption|exact aj) ?_;refine⟨_,rfl,?_⟩;dsimp only[Int.reduceToNat,E7])|(with_reducible refine vX ?_;dsimp only[E7])|((with_reducible show A0 _ _ _ _ _ _);refine⟨_,rfl,?_⟩))))
def top(i:Nat):Stmt:=Eu.main.body.getD i (.Pass ⟨0,0,0,0⟩)
noncomputable abbrev jQ:Stmt:=top 71
set_option genSizeOfSpec false in
set_option genInjectivity false in
structure Ad where
 f:Nat->Addr
 d:Nat->FuncData
 Af:Addr
 Ae:FuncData
 wd:World
 fW:Addr
 jd:Addr
 gf:Addr
 eR:Tok
noncomputable def tab:List Ent:=[en "counts" (top 1) ["row","base"],en "begins" (top 2) ["counts"],en "many_columns" (top 3) ["rows"],en "tally" (top 4) ["rows","base"],en "beginnings" (top 5) ["rows","column"],en "is_parted" (top 6) ["often"],en "order_by_figure" (top 7) ["row","base"],en "parts_of" (top 9) ["first","often","column"],en "from_first" (top 10) ["rows","base"],en "many_goings_on" (top 11) ["longer"],en "ahead_of_first" (top 12) ["lists"],en "from_last" (top 14) ["rows","base"],en "ahead_of_last" (top 15) ["tally"],en "is_order" (top 21) ["thing"],en "check_order" (top 22) ["thing","many"],en "own_copy" (top 23) ["thing"],en "put" (top 24) ["things","order"],en "runs" (top 26) ["rows"],en "merged" (top 27) ["one","other"],en "merged_places" (top 28) ["rows","one","other"],en "merging_round" (top 29) ["lengths"],en "ahead_of_runs" (top 30) ["lengths"],en "by_runs" (top 31) ["rows"],en "many_figures" (top 33) ["n","base"],en "figures" (top 34) ["n","base","many"],en "common_measure" (top 37) ["one","other"],en "least_bottom" (top 38) ["parts"],en "whole_numbers" (top 39) ["parts"],en "number_rows" (top 40) ["numbers","base"],en "text_row" (top 41) ["text","columns"],en "text_rows" (top 42) ["texts"],en "spelled" (top 43) ["kind","keys","base"],en "last_ahead" (top 45) ["rows","base"],en "first_ahead" (top 46) ["rows","base"],en "runs_ahead" (top 47) ["rows","base"],en "last_done" (top 48) ["rows","base"],en "first_done" (top 49) ["rows","base"],en "runs_done" (top 50) ["rows","base"],en "moves_ahead" (top 54) ["kind","keys","base"],en "ordered" (top 55) ["way","kind","keys","base"],en "_law_tape" (top 57) ["_law_script","_law_k"],en "_law_draw" (top 58) ["_law_tape_here","_law_many_here"],en "_law_many" (top 59) ["_law_tape_here","_law_k"],en "_law_base" (top 60) ["_law_tape_here"],en "_law_number" (top 61) ["_law_tape_here"],en "_law_lowest" (top 62) ["_law_top","_law_bottom"],en "_law_fraction" (top 63) ["_law_tape_here"],en "_law_text" (top 64) ["_law_tape_here"],en "_law_key" (top 65) ["_law_tape_here","_law_kind"],en "_law_keys" (top 66) ["_law_tape_here","_law_kind","_law_many_here"],en "_law_same" (top 67) ["_law_found","_law_due"],en "_law_case" (top 68) ["_law_tape_here","_law_k"],en "_law_ahead" (top 69) ["_law_kind","_law_one","_law_other"],en "_law_key_order" (top 70) ["_law_kind","_law_keys_here"]]
structure Tx (K:DU) (mg:Str->Option Value) (t:Ad):Prop where
 fn:∀(i:Nat){x:Str}{s:Stmt}{p:List Str},tab[i]? = some (x,s,p)->FT K mg (t.f i) (t.d i) x s p
 Cu:Fun K "law" "law" jQ t.Af t.Ae
 oD:mg "abs" = none
 rp:mg "all" = none
 cu:mg "bool" = none
 nA:mg "dict" = none
 cE:mg "enumerate" = none
 fL:mg "int" = none
 ak:mg "isinstance" = none
 bA:mg "len" = none
 bZ:mg "list" = none
 lW:mg "max" = none
 lX:mg "min" = none
 rq:mg "ord" = none
 bW:mg "range" = none
 gG:mg "sorted" = none
 eS:mg "str" = none
 iL:mg "sum" = none
 aW:mg "tuple" = none
 oE:mg "zip" = none
 xG:mg "AHEAD" = some (.ref t.fW)
 rn:B6 K t.wd.params t.fW [("last",(t.f 32)),("first",(t.f 33)),("runs",(t.f 34))]
 Ag:mg "DONE" = some (.ref t.jd)
 uj:B6 K t.wd.params t.jd [("last",(t.f 35)),("first",(t.f 36)),("runs",(t.f 37))]
 Ah:mg "WAYS" = some (.ref t.gf)
 nz:∀H,SqT K H t.gf [.str "last",.str "first",.str "runs"]
 lV:mg "TEXT_BASE" = some (.int 27 t.eR)
theorem qQ:bootBuiltins "abs" = some (.builtin "abs"):=by decide +kernel
theorem uU:bootBuiltins "all" = some (.builtin "all"):=by decide +kernel
theorem bR:bootBuiltins "bool" = some (.type "bool"):=by decide +kernel
theorem wW:bootBuiltins "dict" = some (.type "dict"):=by decide +kernel
theorem dO:bootBuiltins "int" = some (.type "int"):=by decide +kernel
theorem ah:bootBuiltins "isinstance" = some (.builtin "isinstance"):=by decide +kernel
theorem aO:bootBuiltins "len" = some (.builtin "len"):=by decide +kernel
theorem bV:bootBuiltins "list" = some (.type "list"):=by decide +kernel
theorem uV:bootBuiltins "max" = some (.builtin "max"):=by decide +kernel
theorem ng:bootBuiltins "min" = some (.builtin "min"):=by decide +kernel
theorem uW:bootBuiltins "ord" = some (.builtin "ord"):=by decide +kernel
theorem dB:bootBuiltins "str" = some (.type "str"):=by decide +kernel
theorem ir:bootBuiltins "sum" = some (.builtin "sum"):=by decide +kernel
theorem aP:bootBuiltins "tuple" = some (.type "tuple"):=by decide +kernel
theorem qR:FnScope ["_law_found","_law_due"] ["_law_found","_law_due"] (bI (top 67)):=⟨rfl,rfl,rfl,by decide +kernel,rfl,by decide +kernel,by decide +kernel⟩
theorem sc_law:FnScope ["_law_script","_law_k","_law_kind","_law_keys_here","_law_base_here","_law_kept","_law_order","_law_ahead_here","_law_listed","_law_ways","_law_way","_law_handed","_law_found","_law_due"] ["_law_script"] (bI jQ):=⟨rfl,rfl,rfl,by decide +kernel,rfl,by decide +kernel,by decide +kernel⟩
section
variable{P:Program}{w:World}{K:DU}{mg:Str->Option Value}{base:Heap}{t:Ad}
theorem d7(r:List Nat):NV r=(bH r).map Of:=iU r
section
variable{K:DU}{H:Hp}{Q:VK}
theorem qS{lo hi:Option Int}(h1:H a=some (.lst xs))(h:∀p H',H p=none->Same H H'->H' p=some (.lst (iA xs lo hi))->Q (.ref p) H'):An K (.ref a) lo hi H Q:=⟨a,xs,rfl,Od h1,λp hp=>h p _ hp ((Oi H).new hp) aj⟩
theorem wX{lo hi:Option Int}(h1:H a=some (.lst xs))(h:∀p H',Same H H'->H' p=some (.lst (iA xs lo hi))->Q (.ref p) H'):An K (.ref a) lo hi H Q:=⟨a,xs,rfl,Od h1,λp hp=>h p _ ((Oi H).new hp) aj⟩
end
theorem bz (T:Tx K mg t):FnOk P t.wd K mg base CX0 1 (t.f 41) (t.d 41) ["_law_tape_here","_law_many_here"] wc:=by
 refine okT (N:=["_law_tape_here","_law_many_here","_law_found","_law_once"]) (T.fn 41 rfl) (λH Q hr nd h=>?_)
 ·obtain⟨p,m,rfl,⟨a,b,hp,ha,hb⟩,hm,hm2,k⟩:=h
  have fin:∀(x:Int) H',St2 p H H'->Q (.int (x % m)) H':=λx H' S=>by
   have:=k (x % m).toNat H' (by rw[KR (GL _ ⋯)];exact Lg _ hm) S;rw[KR (GL _ ⋯)]at this;exact this
  refine⟨_,(af (aV (aD rA (aR (bx (K:=K)) (qv 0) ao) ao (az _)) (af (aJ (i:=2) (aG fN (aR (bx (K:=K)) (qv 0) ao) (qv 1)))
   (af (f7 (aG dq (aR (bx (K:=K)) (qv 0) ao) (qv 1)) (qv 0) ao)
   (aq (ax (qv 2))))) aK)
   (af (f7 (aG fN (aG cI (aG dG (aR (bx (K:=K)) (qv 0) ao) ao) ao) ao) (qv 0) ao)
   (af (aJ (i:=3) (aG fN (aG dG (aR (bx (K:=K)) (qv 0) ao) (aG cI (aG fN (aR (bx (K:=K)) (qv 0) ao) ao) ao)) ao))
   (aq (ax (aG fN (aG fN (aG dG (qv 3) (aG cI (aG fN (qv 3) ao) ao)) ao) (qv 1))))))),?_⟩
  dsimp only[st0];nofun;refine a9 (λh0=>?_) (λh0=>?_)
  ·nofun
   exact fin _ _ (Tp2.mk (Mg ha ⋯) hb)
  ·nofun
   exact fin _ _ (Tp2.mk ha (GL _ ⋯))
theorem wY (T:Tx K mg t):FnOk P t.wd K mg base CX0 1 (t.f 40) (t.d 40) ["_law_script","_law_k"] (wb K):=by
 refine okT (N:=["_law_script","_law_k","_law_cell","_law_digits"]) (T.fn 40 rfl) (λH Q hr nd h=>?_)
 ·obtain⟨a,ns,k,rfl,hS,hk,q⟩:=h
  refine⟨_,(af (aJ (i:=2) ao)
   (af (aV (aD oG (qv 1) (ag (aU (K:=K)) (by rfl) T.bA aO (ai (qv 0) ae)) (az _)) (aq (aJ (i:=2) (aR (bx (K:=K)) (qv 0) (qv 1)))) aK)
   (af (aJ (i:=3) (aG dG (ag pK (by rfl) T.oD qQ (ai (qv 2) ae)) (aT mn (by rfl) T.fL dO (ai (aQ CQ (ag pK (by rfl) T.oD qQ (ai (qv 2) ae)) (aG nV ao ao) (az _)) ae))))
   (aq (ax (bo (ai (qv 3) (ai (aG fN (aG dG (aG fN (aG cI (aG cI (qv 2) (aG dG ao (qv 1))) ao) ao) ao) ao) ae)))))))),?_⟩
  dsimp only[st0];nofun;refine aL hS ?_;nofun;refine a9 (λh0=>?_) (λh0=>?_)
  ·nofun
   have hlt:k.toNat<ns.length:=by rw[DT]at h0;lia
   have hget:atI (ns.map Of) k=some (Of ns[k.toNat]):=by
    have e:k=(k.toNat:Int):=by lia
    have:=bg (xs:=ns.map Of) (j:=k.toNat) (v:=Of ns[k.toNat]) (by simp[hlt]);rw[<-e]at this;exact this
   refine bJ hS hget ?_;generalize ns[k.toNat]=cell;nofun;exact⟨aF (by simp),λp hp=>q p _ hp ((Oi H).new hp) ⟨_,_,aj,Mr (by split<;>lia) (by(repeat' split)<;>lia),GL _ ⋯⟩⟩
  ·nofun
   exact⟨aF (by simp),λp hp=>q p _ hp ((Oi H).new hp) ⟨_,_,aj,Mr (by split<;>lia) (by(repeat' split)<;>lia),GL _ ⋯⟩⟩
def wZ:Sp:=λvs H Q _=>∃(p:Addr) (k:Int),vs=[.ref p,.int k]/\Tp2 H p/\∀(r:Nat) H',r<=60->St2 p H H'->Q (.int r) H'
theorem w5 (T:Tx K mg t):FnOk P t.wd K mg base CX0 2 (t.f 42) (t.d 42) ["_law_tape_here","_law_k"] wZ:=by
 refine okT (N:=["_law_tape_here","_law_k","_law_more"]) (T.fn 42 rfl) (λH Q hr nd h=>?_)
 ·obtain⟨p,kk,rfl,hT,k⟩:=h
  refine⟨_,(af (aJ (i:=2) (aR (bx (K:=K)) (bo (ai (aG cI ao (aI (bz T) hr (T.fn 41 rfl) (ai (qv 0) (ai ao ae)))) (ai ao ae))) (aT mn (by rfl) T.fL dO (ai (bO (aQ dD (qv 1) ao (az _)) (cw (aQ dD (aI (bz T) hr (T.fn 41 rfl) (ai (qv 0) (ai ao ae))) ao (az _)))) ae))))
   (aq (ax (aR (bx (K:=K)) (bo (ai ao (ai ao (ai ao (ai ao (ai ao (ai ao (ai ao (ai (qv 2) ae))))))))) (aI (bz T) hr (T.fn 41 rfl) (ai (qv 0) (ai ao ae))))))),?_⟩
  dsimp only[st0];nofun;refine⟨p,6,rfl,hT,by decide,by decide,λr1 H1 a1 S1=>?_⟩;nofun;refine⟨aF (by simp),λq hq=>?_⟩;have nq:=S1.tape.ne hq;obtain⟨H2,e9,S2,tq⟩:=nwT S1 hq (.lst [Of (7+(r1:Int)),Of 60]);rw[e9];nofun;apply Av (α:=Nat) (S:=λm H3=>St2 p H H3/\m<=60);case hA=>
   intro key;have gb:∀(r:Int) H3,0<=r->r<2->St2 p H2 H3->∃(n:Nat),atI [Of (7+(r1:Int)),Of 60] r=some (Of n)/\n<=60:=λr H3 h0 h1 _=>by
    obtain⟨v,e,hv⟩:=c6 (xs:=[Of (7+(r1:Int)),Of 60]) h0 h1;simp only[Eb,EC,or_false]at hv;rcases hv with rfl|rfl
    ·exact⟨7+r1,by rw[e];rfl,by lia⟩
    ·exact⟨60,e,by lia⟩
   refine a9 (λh1=>?_) (λh1=>?_)
   ·nofun
    refine⟨p,3,rfl,S2.tape,by decide,by decide,λr2 H3 a2 S3=>?_⟩;nofun;obtain⟨n,e,hn⟩:=gb (if decide (Of (r2:Int)=Of 0)=true then 1 else 0) H3 (by split<;>lia) (by split<;>lia) S3;refine bJ (Od (S3.keep q _ tq nq)) e ?_;nofun;exact key n H3 ⟨S2.trans S3,hn⟩
   ·nofun
    obtain⟨n,hn⟩:∃n:Nat,(7+(r1:Int))=n:=⟨7+r1,by lia⟩
    rw[hn];exact key n H2 ⟨S2,by lia⟩
  case hB=>
   rintro n H3 ⟨S3,hn⟩;nofun;refine⟨aF (by simp),λq2 hq2=>?_⟩;have nq2:=S3.tape.ne hq2;nofun;refine⟨p,8,rfl,(S3.new hq2).tape,by decide,by decide,λr3 H4 a3 S4=>?_⟩;obtain⟨v,e,hv⟩:=c6 (xs:=[Of 0,Of 1,Of 2,Of 3,Of 4,Of 5,Of 6,Of (n:Int)]) (r:=(r3:Int)) ⋯ (by simp only[Ej,E2];lia);refine bJ (Od (S4.keep q2 _ aj nq2)) e ?_;simp only[Eb,EC,or_false]at hv;have S:=(S3.new (o:=.lst [Of 0,Of 1,Of 2,Of 3,Of 4,Of 5,Of 6,Of (n:Int)]) hq2).trans S4;rcases hv with rfl|rfl|rfl|rfl|rfl|rfl|rfl|rfl
   ·exact k 0 H4 ⋯ S
   ·exact k 1 H4 ⋯ S
   ·exact k 2 H4 ⋯ S
   ·exact k 3 H4 ⋯ S
   ·exact k 4 H4 ⋯ S
   ·exact k 5 H4 ⋯ S
   ·exact k 6 H4 ⋯ S
   ·exact k n H4 hn S
def w6:Sp:=λvs H Q _=>∃(p:Addr),vs=[.ref p]/\Tp2 H p/\∀(b:Nat) H',2<=b->b<=64->St2 p H H'->Q (.int b) H'
theorem xa (T:Tx K mg t):FnOk P t.wd K mg base CX0 2 (t.f 43) (t.d 43) ["_law_tape_here"] w6:=by
 refine okT (N:=["_law_tape_here"]) (T.fn 43 rfl) (λH Q hr nd h=>?_)
 ·obtain⟨p,rfl,hT,k⟩:=h
  refine⟨_,(aq (ax (aR (bx (K:=K)) (bo (ai ao (ai ao (ai ao (ai ao (ai ao (ai (aG cI ao (aI (bz T) hr (T.fn 41 rfl) (ai (qv 0) (ai ao ae)))) ae))))))) (aI (bz T) hr (T.fn 41 rfl) (ai (qv 0) (ai ao ae)))))),?_⟩;dsimp only[st0];nofun;refine⟨p,63,rfl,hT,by decide,by decide,λr1 H1 a1 S1=>?_⟩;nofun;refine⟨aF (by simp),λq hq=>?_⟩;nofun;refine⟨p,6,rfl,(S1.new hq).tape,by decide,by decide,λr3 H4 a3 S4=>?_⟩;obtain⟨v,e,hv⟩:=c6 (xs:=[Of 2,Of 3,Of 10,Of 16,Of 64,Of (2+(r1:Int))]) (r:=(r3:Int)) ⋯ (by simp only[Ej,E2];lia);refine bJ (Od (S4.keep q _ aj (S1.tape.ne hq))) e ?_;have S:=(S1.new (o:=.lst [Of 2,Of 3,Of 10,Of 16,Of 64,Of (2+(r1:Int))]) hq).trans S4;simp only[Eb,EC,or_false]at hv;rcases hv with rfl|rfl|rfl|rfl|rfl|rfl
  ·exact k 2 H4 ⋯ ⋯ S
  ·exact k 3 H4 ⋯ ⋯ S
  ·exact k 10 H4 ⋯ ⋯ S
  ·exact k 16 H4 ⋯ ⋯ S
  ·exact k 64 H4 ⋯ ⋯ S
  ·exact k (2+r1) H4 ⋯ ⋯ S
noncomputable def SmAt:Nat->Hp->V->V->Prop
 | 0,_,x,y=>Sc x/\y=x
 | n+1,H,x,y=>(Sc x/\y=x)\/(∃a c xs ys,x=.ref a/\y=.ref c/\H a=some (.lst xs)/\H c=some (.lst ys)/\xs.length=ys.length/\xs.length<=200/\∀(i:Nat) u v,xs[i]? = some u->ys[i]? = some v->SmAt n H u v)\/
  (∃a c xs ys,x=.ref a/\y=.ref c/\H a=some (.tup xs)/\H c=some (.tup ys)/\xs.length=ys.length/\xs.length<=200/\∀(i:Nat) u v,xs[i]? = some u->ys[i]? = some v->SmAt n H u v)
theorem SmAt.same{H H1:Hp}(s:Same H H1):∀{n:Nat}{x y:V},SmAt n H x y->SmAt n H1 x y
 | 0,_,_,h=>h
 | n+1,_,_,h=>by
  rcases h with h|⟨a,c,xs,ys,rfl,rfl,ha,hc,hl,hz,hi⟩|⟨a,c,xs,ys,rfl,rfl,ha,hc,hl,hz,hi⟩
  ·exact .inl h
  ·exact .inr (.inl ⟨a,c,xs,ys,rfl,rfl,s _ _ ha,s _ _ hc,hl,hz,λi u v e1 e2=>SmAt.same s (hi i u v e1 e2)⟩)
  ·exact .inr (.inr ⟨a,c,xs,ys,rfl,rfl,s _ _ ha,s _ _ hc,hl,hz,λi u v e1 e2=>SmAt.same s (hi i u v e1 e2)⟩)
theorem SmAt.int{H:Hp}(n:Nat)(i:Int):SmAt n H (.int i) (.int i):=by
 cases n with
 | zero=>exact⟨.inr (.inr (.inl ⟨i,rfl⟩)),rfl⟩
 | succ n=>exact .inl ⟨.inr (.inr (.inl ⟨i,rfl⟩)),rfl⟩
theorem SmAt.sc{H:Hp}(n:Nat){x:V}(h:Sc x):SmAt n H x x:=by
 cases n with
 | zero=>exact⟨h,rfl⟩
 | succ n=>exact .inl ⟨h,rfl⟩
theorem xb{H:Hp}(n:Nat){ns:List Nat}{u:V}(e1:(NV ns)[i]? = some u)(e2:(NV ns)[i]? = some v):SmAt n H u v:=by
 rw[e1]at e2;cases e2;obtain⟨o,rfl,_⟩:=aH e1;exact SmAt.int n _
theorem SmAt.ints{H:Hp}{c:Addr}{ns:List Nat}(n:Nat)(h1:H l=some (.lst (NV ns)))(h2:H c=some (.lst (NV ns)))(hl:ns.length<=200):SmAt (n+1) H (.ref l) (.ref c):=
 .inr (.inl ⟨l,c,_,_,rfl,rfl,h1,h2,rfl,by rw[aC];exact hl,λi u v e1 e2=>xb n e1 e2⟩)
theorem iu {K:DU}{H:Hp}{Q:VK}{p:Addr}(s:H p=some (.tup xs)) (h:Q (.bl false) H):mi K [.ref p,.ty "list"] H Q:=⟨_,_,_,_,rfl,.tup s,rfl,h⟩
def B7(n:Nat):Sp:=λvs H Q _=>∃x y,vs=[x,y]/\SmAt n H x y/\∀H',Same H H'->Q (.bl true) H'
def B8:Sp:=λvs H Q _=>∃x,vs=[x,x]/\Sc x/\∀H',Same H H'->Q (.bl true) H'
def B9(n:Nat):Sp:=λvs H Q _=>∃x y,vs=[x,y]/\((∃a c xs ys,x=.ref a/\y=.ref c/\H a=some (.lst xs)/\H c=some (.lst ys)/\xs.length=ys.length/\xs.length<=200/\∀(i:Nat) u v,xs[i]? = some u->ys[i]? = some v->SmAt n H u v)\/
  (∃a c xs ys,x=.ref a/\y=.ref c/\H a=some (.tup xs)/\H c=some (.tup ys)/\xs.length=ys.length/\xs.length<=200/\∀(i:Nat) u v,xs[i]? = some u->ys[i]? = some v->SmAt n H u v))/\∀H',Same H H'->Q (.bl true) H'
theorem nh (T:Tx K mg t) (n:Nat):FnOk P t.wd K mg base CX0 (n+1) (t.f 50) (t.d 50) ["_law_found","_law_due"] B8:=by
  refine(T.fn 50 rfl).2.1.okQ qR (λvs H Q E h=>?_) (λcdv A outer s H vs Q E hr h=>?_)
  ·obtain⟨x,rfl,_⟩:=h
   rfl
  ·obtain⟨x,rfl,hsc,k⟩:=h
   rcases hsc with rfl|⟨b9,rfl⟩|⟨i9,rfl⟩|⟨x9,rfl⟩
   ·refine⟨_,(af (aV (aD gj (qv 1) dA (az _)) (aq (ax (aQ gj (qv 0) dA (az _)))) aK)
   (af (aV (bB (ag (dJ (K:=K)) (by rfl) T.ak ah (ai (qv 1) (ai (ba (ai (aA rfl T.bZ bV (v:=.ty "list") rfl) (ai (aA rfl T.aW aP (v:=.ty "tuple") rfl) ae))) ae)))) (af cm
   (aq cm)) aK)
   (af (aV (bB (ag (aN (K:=K)) (by rfl) T.ak ah (ai (qv 1) (ai (aA rfl T.cu bR (v:=.ty "bool") rfl) ae)))) (aq (ax (bO (ag (aN (K:=K)) (by rfl) T.ak ah (ai (qv 0) (ai (aA rfl T.cu bR (v:=.ty "bool") rfl) ae))) (cw (aQ dD (qv 0) (qv 1) (az _)))))) aK)
   (af (aV (bB (ag (aN (K:=K)) (by rfl) T.ak ah (ai (qv 1) (ai (aA rfl T.eS dB (v:=.ty "str") rfl) ae)))) (aq (ax (bO (ag (aN (K:=K)) (by rfl) T.ak ah (ai (qv 0) (ai (aA rfl T.eS dB (v:=.ty "str") rfl) ae))) (cw (aQ dD (qv 0) (qv 1) (az _)))))) aK)
   (aq (ax (bO (ag (aN (K:=K)) (by rfl) T.ak ah (ai (qv 0) (ai (aA rfl T.fL dO (v:=.ty "int") rfl) ae))) (bO (iP (ag (aN (K:=K)) (by rfl) T.ak ah (ai (qv 0) (ai (aA rfl T.cu bR (v:=.ty "bool") rfl) ae)))) (cw (aQ dD (qv 0) (qv 1) (az _))))))))))),?_⟩
    rw[show L2.start ["_law_found","_law_due"] [V.non,V.non]=[some (V.non),some (V.non)]from rfl];nofun;refine cN rfl ?_;nofun;rw[decide_eq_true rfl];exact k _ (Oi H)
   ·refine⟨_,(af (aV (aD gj (qv 1) dA (az _)) (aq (ax (aQ gj (qv 0) dA (az _)))) aK)
   (af (aV (bB (ag (dJ (K:=K)) (by rfl) T.ak ah (ai (qv 1) (ai (ba (ai (aA rfl T.bZ bV (v:=.ty "list") rfl) (ai (aA rfl T.aW aP (v:=.ty "tuple") rfl) ae))) ae)))) (af cm
   (aq cm)) aK)
   (af (aV (bB (ag (aN (K:=K)) (by rfl) T.ak ah (ai (qv 1) (ai (aA rfl T.cu bR (v:=.ty "bool") rfl) ae)))) (aq (ax (bO (ag (aN (K:=K)) (by rfl) T.ak ah (ai (qv 0) (ai (aA rfl T.cu bR (v:=.ty "bool") rfl) ae))) (cw (aQ dD (qv 0) (qv 1) (az _)))))) aK)
   (af (aV (bB (ag (aN (K:=K)) (by rfl) T.ak ah (ai (qv 1) (ai (aA rfl T.eS dB (v:=.ty "str") rfl) ae)))) (aq (ax (bO (ag (aN (K:=K)) (by rfl) T.ak ah (ai (qv 0) (ai (aA rfl T.eS dB (v:=.ty "str") rfl) ae))) (cw (aQ dD (qv 0) (qv 1) (az _)))))) aK)
   (aq (ax (bO (ag (aN (K:=K)) (by rfl) T.ak ah (ai (qv 0) (ai (aA rfl T.fL dO (v:=.ty "int") rfl) ae))) (bO (iP (ag (aN (K:=K)) (by rfl) T.ak ah (ai (qv 0) (ai (aA rfl T.cu bR (v:=.ty "bool") rfl) ae)))) (cw (aQ dD (qv 0) (qv 1) (az _))))))))))),?_⟩
    rw[show L2.start ["_law_found","_law_due"] [Og b9,Og b9]=[some (Og b9),some (Og b9)]from rfl];nofun;refine bX (λh=>by cases h) ?_;nofun;refine⟨aF (by simp),λtp htp=>?_⟩;nofun;refine dw aj (.inr (.inl ⟨_,rfl⟩)) ?_;nofun;rw[decide_eq_true rfl];exact k _ ((Oi H).new htp)
   ·refine⟨_,(af (aV (aD gj (qv 1) dA (az _)) (aq (ax (aQ gj (qv 0) dA (az _)))) aK)
   (af (aV (bB (ag (dJ (K:=K)) (by rfl) T.ak ah (ai (qv 1) (ai (ba (ai (aA rfl T.bZ bV (v:=.ty "list") rfl) (ai (aA rfl T.aW aP (v:=.ty "tuple") rfl) ae))) ae)))) (af cm
   (aq cm)) aK)
   (af (aV (bB (ag (aN (K:=K)) (by rfl) T.ak ah (ai (qv 1) (ai (aA rfl T.cu bR (v:=.ty "bool") rfl) ae)))) (aq (ax (bO (ag (aN (K:=K)) (by rfl) T.ak ah (ai (qv 0) (ai (aA rfl T.cu bR (v:=.ty "bool") rfl) ae))) (cw (aQ dD (qv 0) (qv 1) (az _)))))) aK)
   (af (aV (bB (ag (aN (K:=K)) (by rfl) T.ak ah (ai (qv 1) (ai (aA rfl T.eS dB (v:=.ty "str") rfl) ae)))) (aq (ax (bO (ag (aN (K:=K)) (by rfl) T.ak ah (ai (qv 0) (ai (aA rfl T.eS dB (v:=.ty "str") rfl) ae))) (cw (aQ dD (qv 0) (qv 1) (az _)))))) aK)
   (aq (ax (bO (ag (aN (K:=K)) (by rfl) T.ak ah (ai (qv 0) (ai (aA rfl T.fL dO (v:=.ty "int") rfl) ae))) (bO (iP (ag (aN (K:=K)) (by rfl) T.ak ah (ai (qv 0) (ai (aA rfl T.cu bR (v:=.ty "bool") rfl) ae)))) (cw (aQ dD (qv 0) (qv 1) (az _))))))))))),?_⟩
    rw[show L2.start ["_law_found","_law_due"] [Of i9,Of i9]=[some (Of i9),some (Of i9)]from rfl];nofun;refine bX (λh=>by cases h) ?_;nofun;refine⟨aF (by simp),λtp htp=>?_⟩;nofun;refine dw aj (.inr (.inr (.inl ⟨_,rfl⟩))) ?_;nofun;rw[decide_eq_true rfl];exact k _ ((Oi H).new htp)
   ·refine⟨_,(af (aV (aD gj (qv 1) dA (az _)) (aq (ax (aQ gj (qv 0) dA (az _)))) aK)
   (af (aV (bB (ag (dJ (K:=K)) (by rfl) T.ak ah (ai (qv 1) (ai (ba (ai (aA rfl T.bZ bV (v:=.ty "list") rfl) (ai (aA rfl T.aW aP (v:=.ty "tuple") rfl) ae))) ae)))) (af cm
   (aq cm)) aK)
   (af (aV (bB (ag (aN (K:=K)) (by rfl) T.ak ah (ai (qv 1) (ai (aA rfl T.cu bR (v:=.ty "bool") rfl) ae)))) (aq (ax (bO (ag (aN (K:=K)) (by rfl) T.ak ah (ai (qv 0) (ai (aA rfl T.cu bR (v:=.ty "bool") rfl) ae))) (cw (aQ dD (qv 0) (qv 1) (az _)))))) aK)
   (af (aV (bB (ag (aN (K:=K)) (by rfl) T.ak ah (ai (qv 1) (ai (aA rfl T.eS dB (v:=.ty "str") rfl) ae)))) (aq (ax (bO (ag (aN (K:=K)) (by rfl) T.ak ah (ai (qv 0) (ai (aA rfl T.eS dB (v:=.ty "str") rfl) ae))) (cw (aQ dD (qv 0) (qv 1) (az _)))))) aK)
   (aq (ax (bO (ag (aN (K:=K)) (by rfl) T.ak ah (ai (qv 0) (ai (aA rfl T.fL dO (v:=.ty "int") rfl) ae))) (bO (iP (ag (aN (K:=K)) (by rfl) T.ak ah (ai (qv 0) (ai (aA rfl T.cu bR (v:=.ty "bool") rfl) ae)))) (cw (aQ dD (qv 0) (qv 1) (az _))))))))))),?_⟩
    rw[show L2.start ["_law_found","_law_due"] [Oh x9,Oh x9]=[some (Oh x9),some (Oh x9)]from rfl];nofun;refine bX (λh=>by cases h) ?_;nofun;refine⟨aF (by simp),λtp htp=>?_⟩;nofun;refine dw aj (.inr (.inr (.inr ⟨_,rfl⟩))) ?_;nofun;rw[decide_eq_true rfl];exact k _ ((Oi H).new htp)
theorem tQ (T:Tx K mg t) (n:Nat) (recN:Tx K mg t->FnOk P t.wd K mg base CX0 (n+1) (t.f 50) (t.d 50) ["_law_found","_law_due"] (B7 n)):FnOk P t.wd K mg base CX0 (n+1+1) (t.f 50) (t.d 50) ["_law_found","_law_due"] (B9 n):=by
  refine(T.fn 50 rfl).2.1.okQ qR (λvs H Q E h=>?_) (λcdv A outer s H vs Q E hr h=>?_)
  ·obtain⟨x,y,rfl,_⟩:=h
   rfl
  ·obtain⟨x,y,rfl,h,k⟩:=h
   rcases h with⟨a,c,xs,ys,rfl,rfl,ta,tc,hl,hz,hi⟩|⟨a,c,xs,ys,rfl,rfl,ta,tc,hl,hz,hi⟩
   ·refine⟨_,(af (aV (aD gj (qv 1) dA (az _)) (aq (ax (aQ gj (qv 0) dA (az _)))) aK)
   (af (aV (bB (ag (dJ (K:=K)) (by rfl) T.ak ah (ai (qv 1) (ai (ba (ai (aA rfl T.bZ bV (v:=.ty "list") rfl) (ai (aA rfl T.aW aP (v:=.ty "tuple") rfl) ae))) ae)))) (af (aV (Oj (gO (aD xI (ag (aN (K:=K)) (by rfl) T.ak ah (ai (qv 0) (ai (aA rfl T.bZ bV (v:=.ty "list") rfl) ae))) (ag (aN (K:=K)) (by rfl) T.ak ah (ai (qv 1) (ai (aA rfl T.bZ bV (v:=.ty "list") rfl) ae))) (az _)) (eY (aD xI (ag (aN (K:=K)) (by rfl) T.ak ah (ai (qv 0) (ai (aA rfl T.aW aP (v:=.ty "tuple") rfl) ae))) (ag (aN (K:=K)) (by rfl) T.ak ah (ai (qv 1) (ai (aA rfl T.aW aP (v:=.ty "tuple") rfl) ae))) (az _))))) (aq (ax gM)) aK)
   (aq (ax (bO (aQ dD (ag (aU (K:=K)) (by rfl) T.bA aO (ai (qv 0) ae)) (ag (aU (K:=K)) (by rfl) T.bA aO (ai (qv 1) ae)) (az _)) (cw (ag (uD (K:=K) rfl) (by rfl) T.rp uU (ai (bj (N:=["_law_one","_law_other"]) (tgs:=["_law_one","_law_other"]) (frs:=[]) (ix:=[]) ⟨rfl,by decide +kernel,rfl,by decide +kernel,rfl,rfl,D3,D3,rfl⟩ rfl (uH (K:=K) rfl T.oE (ai (qv 0) (ai (qv 1) ae))) (λ_ _ _ _=>(bM (K:=K) (n:=2) rfl (av (aE (i:=0)) (av (aE (i:=1)) aY)))) (λ_ _ _ _=>(lj (recN T) (hr.mono (by first | decide | lia)) rfl (T.fn 50 rfl).1 (T.fn 50 rfl).2.1.kp (T.fn 50 rfl).2.2 jk (ai (qv 0) (ai (qv 1) ae))))) ae))))))) aK)
   (af (aV (bB (ag (aN (K:=K)) (by rfl) T.ak ah (ai (qv 1) (ai (aA rfl T.cu bR (v:=.ty "bool") rfl) ae)))) (aq (ax (bO (ag (aN (K:=K)) (by rfl) T.ak ah (ai (qv 0) (ai (aA rfl T.cu bR (v:=.ty "bool") rfl) ae))) (cw (aQ (vZ (K:=K) hr.units0) (qv 0) (qv 1) (az _)))))) aK)
   (af (aV (bB (ag (aN (K:=K)) (by rfl) T.ak ah (ai (qv 1) (ai (aA rfl T.eS dB (v:=.ty "str") rfl) ae)))) (aq (ax (bO (ag (aN (K:=K)) (by rfl) T.ak ah (ai (qv 0) (ai (aA rfl T.eS dB (v:=.ty "str") rfl) ae))) (cw (aQ (vZ (K:=K) hr.units0) (qv 0) (qv 1) (az _)))))) aK)
   (aq (ax (bO (ag (aN (K:=K)) (by rfl) T.ak ah (ai (qv 0) (ai (aA rfl T.fL dO (v:=.ty "int") rfl) ae))) (bO (iP (ag (aN (K:=K)) (by rfl) T.ak ah (ai (qv 0) (ai (aA rfl T.cu bR (v:=.ty "bool") rfl) ae)))) (cw (aQ (vZ (K:=K) hr.units0) (qv 0) (qv 1) (az _))))))))))),?_⟩
    rw[show L2.start ["_law_found","_law_due"] [Ou a,Ou c]=[some (Ou a),some (Ou c)]from rfl];nofun;refine bX (λh=>by cases h) ?_;nofun;refine⟨aF (by simp),λtp htp=>?_⟩;obtain⟨H1,e9,s1,ttp⟩:=nwR htp (.tup [V.ty "list",V.ty "tuple"]);rw[e9];have ta1:=s1 _ _ ta;have tc1:=s1 _ _ tc;nofun;refine mQ tc1 ttp ?_;nofun;refine jt ta1 ?_;nofun;refine jt tc1 ?_;nofun;refine gK rfl ?_;nofun;refine mG ta1 ?_;nofun;refine mG tc1 ?_;nofun;refine gK rfl ?_;nofun;refine aL (Od ta1) ?_;nofun;refine aL (Od tc1) ?_;nofun;refine cN (by rw[hl]) ?_;nofun;refine⟨a,c,rfl,⟨_,Od ta1⟩,⟨_,Od tc1⟩,gw (n:=xs.length) (λi ys σ H2=>Same H1 H2/\ys=Ef i (Og true)/\∃v w,σ=[v,w]) (au ⋯) (λi ys σ H2 h=>by rw[h.2.1,Fz]) ⟨Oi _,rfl,none,none,rfl⟩ ?_ ?_ ?_ ?_⟩
    ·rintro i zs σ H2 hi ⟨s2,_⟩
     exact⟨_,_,xs[i],ys[i]'⋯,Od (s2 _ _ ta1),Od (s2 _ _ tc1),by simp[hi],DR _⟩
    ·rintro zs σ H2 ⟨s2,_⟩
     exact⟨_,_,Od (s2 _ _ ta1),Od (s2 _ _ tc1),.inl (DY _)⟩
    ·rintro i x zs σ H2 H3 hi' ⟨s2,rfl,v,w,rfl⟩ ⟨p,x1,y1,rfl,hp,rfl,hx1,hy1⟩
     have hx2:=hx1 _ (Od (s2 _ _ ta1));have hy2:=hy1 _ (Od (s2 _ _ tc1));refine bu aj ?_;dsimp only[E7];nofun;refine⟨_,_,rfl,(hi i x1 y1 hx2 hy2).same ((s1.trans s2).new hp),λH4 s4=>?_⟩;exact Ol hi' ⟨(s2.new hp).trans s4,by rw[KG],_,_,rfl⟩
    ·rintro zs σ H2 ⟨s2,rfl,v,w,rfl⟩ l hl
     nofun;rw[<-F9];refine uB (Od aj) ?_;have ea:(Ef xs.length true).all id=true:=by rw[FM];intro x hx;rw[GB hx];rfl
     rw[ea];exact k _ ((s1.trans s2).new hl)
   ·refine⟨_,(af (aV (aD gj (qv 1) dA (az _)) (aq (ax (aQ gj (qv 0) dA (az _)))) aK)
   (af (aV (bB (ag (dJ (K:=K)) (by rfl) T.ak ah (ai (qv 1) (ai (ba (ai (aA rfl T.bZ bV (v:=.ty "list") rfl) (ai (aA rfl T.aW aP (v:=.ty "tuple") rfl) ae))) ae)))) (af (aV (Oj (gO (aD xI (ag (aN (K:=K)) (by rfl) T.ak ah (ai (qv 0) (ai (aA rfl T.bZ bV (v:=.ty "list") rfl) ae))) (ag (aN (K:=K)) (by rfl) T.ak ah (ai (qv 1) (ai (aA rfl T.bZ bV (v:=.ty "list") rfl) ae))) (az _)) (eY (aD xI (ag (aN (K:=K)) (by rfl) T.ak ah (ai (qv 0) (ai (aA rfl T.aW aP (v:=.ty "tuple") rfl) ae))) (ag (aN (K:=K)) (by rfl) T.ak ah (ai (qv 1) (ai (aA rfl T.aW aP (v:=.ty "tuple") rfl) ae))) (az _))))) (aq (ax gM)) aK)
   (aq (ax (bO (aQ dD (ag (aU (K:=K)) (by rfl) T.bA aO (ai (qv 0) ae)) (ag (aU (K:=K)) (by rfl) T.bA aO (ai (qv 1) ae)) (az _)) (cw (ag (uD (K:=K) rfl) (by rfl) T.rp uU (ai (bj (N:=["_law_one","_law_other"]) (tgs:=["_law_one","_law_other"]) (frs:=[]) (ix:=[]) ⟨rfl,by decide +kernel,rfl,by decide +kernel,rfl,rfl,D3,D3,rfl⟩ rfl (wj (K:=K) rfl T.oE (ai (qv 0) (ai (qv 1) ae))) (λ_ _ _ _=>(bM (K:=K) (n:=2) rfl (av (aE (i:=0)) (av (aE (i:=1)) aY)))) (λ_ _ _ _=>(lj (recN T) (hr.mono (by first | decide | lia)) rfl (T.fn 50 rfl).1 (T.fn 50 rfl).2.1.kp (T.fn 50 rfl).2.2 jk (ai (qv 0) (ai (qv 1) ae))))) ae))))))) aK)
   (af (aV (bB (ag (aN (K:=K)) (by rfl) T.ak ah (ai (qv 1) (ai (aA rfl T.cu bR (v:=.ty "bool") rfl) ae)))) (aq (ax (bO (ag (aN (K:=K)) (by rfl) T.ak ah (ai (qv 0) (ai (aA rfl T.cu bR (v:=.ty "bool") rfl) ae))) (cw (aQ (vW (K:=K) hr.units0) (qv 0) (qv 1) (az _)))))) aK)
   (af (aV (bB (ag (aN (K:=K)) (by rfl) T.ak ah (ai (qv 1) (ai (aA rfl T.eS dB (v:=.ty "str") rfl) ae)))) (aq (ax (bO (ag (aN (K:=K)) (by rfl) T.ak ah (ai (qv 0) (ai (aA rfl T.eS dB (v:=.ty "str") rfl) ae))) (cw (aQ (vW (K:=K) hr.units0) (qv 0) (qv 1) (az _)))))) aK)
   (aq (ax (bO (ag (aN (K:=K)) (by rfl) T.ak ah (ai (qv 0) (ai (aA rfl T.fL dO (v:=.ty "int") rfl) ae))) (bO (iP (ag (aN (K:=K)) (by rfl) T.ak ah (ai (qv 0) (ai (aA rfl T.cu bR (v:=.ty "bool") rfl) ae)))) (cw (aQ (vW (K:=K) hr.units0) (qv 0) (qv 1) (az _))))))))))),?_⟩
    rw[show L2.start ["_law_found","_law_due"] [Ou a,Ou c]=[some (Ou a),some (Ou c)]from rfl];nofun;refine bX (λh=>by cases h) ?_;nofun;refine⟨aF (by simp),λtp htp=>?_⟩;obtain⟨H1,e9,s1,ttp⟩:=nwR htp (.tup [V.ty "list",V.ty "tuple"]);rw[e9];have ta1:=s1 _ _ ta;have tc1:=s1 _ _ tc;nofun;refine mR tc1 ttp ?_;nofun;refine iu ta1 ?_;nofun;refine iu tc1 ?_;nofun;refine gK rfl ?_;nofun;refine js ta1 ?_;nofun;refine js tc1 ?_;nofun;refine gK rfl ?_;nofun;refine jr (Oe ta1) ?_;nofun;refine jr (Oe tc1) ?_;nofun;refine cN (by rw[hl]) ?_;nofun;refine⟨a,c,rfl,⟨_,Oe ta1⟩,⟨_,Oe tc1⟩,gw (n:=xs.length) (λi ys σ H2=>Same H1 H2/\ys=Ef i (Og true)/\∃v w,σ=[v,w]) (au ⋯) (λi ys σ H2 h=>by rw[h.2.1,Fz]) ⟨Oi _,rfl,none,none,rfl⟩ ?_ ?_ ?_ ?_⟩
    ·rintro i zs σ H2 hi ⟨s2,_⟩
     exact⟨_,_,xs[i],ys[i]'⋯,Oe (s2 _ _ ta1),Oe (s2 _ _ tc1),by simp[hi],DR _⟩
    ·rintro zs σ H2 ⟨s2,_⟩
     exact⟨_,Oe (s2 _ _ ta1),DY _⟩
    ·rintro i x zs σ H2 H3 hi' ⟨s2,rfl,v,w,rfl⟩ ⟨p,x1,y1,rfl,hp,rfl,hx1,hy1⟩
     have hx2:=hx1 _ (Oe (s2 _ _ ta1));have hy2:=hy1 _ (Oe (s2 _ _ tc1));refine bu aj ?_;dsimp only[E7];nofun;refine⟨_,_,rfl,(hi i x1 y1 hx2 hy2).same ((s1.trans s2).new hp),λH4 s4=>?_⟩;exact Ol hi' ⟨(s2.new hp).trans s4,by rw[KG],_,_,rfl⟩
    ·rintro zs σ H2 ⟨s2,rfl,v,w,rfl⟩ l hl
     nofun;rw[<-F9];refine uB (Od aj) ?_;have ea:(Ef xs.length true).all id=true:=by rw[FM];intro x hx;rw[GB hx];rfl
     rw[ea];exact k _ ((s1.trans s2).new hl)
theorem Ca{k:Nat}{f:Addr}{fd:FuncData}{ps:List Str}{sp sp':Sp}(F:FnOk P t.wd K mg base CX0 k f fd ps sp)(G:FnOk P t.wd K mg base CX0 k f fd ps sp'):FnOk P t.wd K mg base CX0 k f fd ps (λvs H Q E=>sp vs H Q E\/sp' vs H Q E):=
 ⟨λvs H Q E h=>h.elim (F.len vs H Q E) (G.len vs H Q E),λA outer s H args us vs Q E hr he hb hv h=>h.elim (F.run A outer s H args us vs Q E hr he hb hv) (G.run A outer s H args us vs Q E hr he hb hv)⟩
theorem ni (T:Tx K mg t):∀n:Nat,FnOk P t.wd K mg base CX0 (n+1) (t.f 50) (t.d 50) ["_law_found","_law_due"] (B7 n)
 | 0=>(nh T 0).imp λvs H Q E ⟨x,y,e,⟨h,h'⟩,k⟩=>⟨x,by rw[e,h'],h,k⟩
 | n+1=>(Ca (nh T (n+1)) (tQ T n λT=>ni T n)).imp λvs H Q E ⟨x,y,e,h,k⟩=>by
  rcases h with⟨h,h'⟩|h|h
  ·exact .inl ⟨x,by rw[e,h'],h,k⟩
  ·exact .inr ⟨x,y,e,.inl h,k⟩
  ·exact .inr ⟨x,y,e,.inr h,k⟩
theorem xf (T:Tx K mg t):FnOk P t.wd K mg base CX0 4 (t.f 50) (t.d 50) ["_law_found","_law_due"] (B7 3):=ni T 3
def xg:Sp:=λvs H Q _=>∃(a:Addr) (os:List Nat) (n:Nat),vs=[.ref a]/\(H a=some (.lst (NV os))\/False)/\Ord os n/\n<=200/\∀H',Same H H'->Q (.bl true) H'
theorem lK (T:Tx K mg t):FnOk P t.wd K mg base CX0 1 (t.f 13) (t.d 13) ["thing"] xg:=by
 refine okT (N:=["thing","met","place"]) (T.fn 13 rfl) (λH Q hr nd h=>?_)
 ·obtain⟨a,os,n,rfl,hs,hO,hn,k⟩:=h
  have hlen:=hO.len;rcases hs with ta|ta
  ·refine⟨_,(af (aV (fZ (bB (ag (wa (K:=K)) (by rfl) T.ak ah (ai (qv 0) (ai (ba (ai (aA rfl T.bZ bV (v:=.ty "list") rfl) (ai (aA rfl T.aW aP (v:=.ty "tuple") rfl) ae))) ae))))) (aq (ax gM)) aK)
   (af (aJ (i:=1) (aG sq (bo (ai gM ae)) (ag (aU (K:=K)) (by rfl) T.bA aO (ai (qv 0) ae))))
   (af (cf Em rfl (aS (K:=K) (qv 0)) (aE (i:=2)) (af (aV (Oj (gO (bB (ag (aN (K:=K)) (by rfl) T.ak ah (ai (qv 2) (ai (aA rfl T.cu bR (v:=.ty "bool") rfl) ae)))) (eY (fZ (bB (ag (aN (K:=K)) (by rfl) T.ak ah (ai (qv 2) (ai (aA rfl T.fL dO (v:=.ty "int") rfl) ae)))))))) (aq (ax gM)) aK)
   (af (aV (Oj (gO (aD oG (qv 2) ao (az _)) (gO (aD CQ (qv 2) (ag (aU (K:=K)) (by rfl) T.bA aO (ai (qv 0) ae)) (az _)) (eY (bB (aR (bx (K:=K)) (qv 1) (qv 2))))))) (aq (ax gM)) aK)
   (aq (f7 gM (qv 1) (qv 2))))))
   (aq (ax gM))))),?_⟩
   dsimp only[st0];nofun;refine⟨aF (by simp),λtp htp=>?_⟩;obtain⟨H0,e9,s0,ttp⟩:=nwR htp (.tup [V.ty "list",V.ty "tuple"]);rw[e9];nofun;refine sH (s0 _ _ ta) ttp ?_;nofun;refine⟨aF (by simp),λq0 hq0=>?_⟩;obtain⟨H1,e9,s1,t0⟩:=nwS s0 hq0 (.lst [Og false]);rw[e9];nofun;refine aL (Od (s1 _ _ ta)) ?_;rw[aC];refine⟨q0,_,_,rfl,rfl,t0,by lia,by lia,aF (by simp;lia),λm hm=>?_⟩;have efl:(Ef ((os.length:Nat):Int).toNat [Og false]).flatten=(Ef os.length false).map Og:=by
    show(Ef os.length [Og false]).flatten=_
    rw[F9,GC]
   rw[efl];obtain⟨H2,e9,s2,tm⟩:=nwS s1 hm (.lst ((Ef os.length false).map Og));rw[e9];have hmn:H m=none:=s1.free hm;nofun;refine⟨a,rfl,⟨_,Od (s2 _ _ ta)⟩,cF (a:=a) (xs:=NV os) (λi σ H'=>Same H H'/\(∃met:List Bool,H' m=some (.lst (met.map Og))/\met.length=n/\∀(j x:Nat),os[j]? = some x->met[x]? = some (decide (j<i)))/\∃v,σ=[some (Ou a),some (Ou m),v]) ⟨s2,⟨_,tm,by simp[hlen],λj x e=>?_⟩,none,rfl⟩ (λi σ H' _ h=>Od (h.1 _ _ ta)) ?_ ?_⟩
   ·have:=hO.lt x (Ew e)
    rw[F1,if_pos ⋯];simp
   ·rintro i x σ H3 hx ⟨s3,⟨met,tm3,hml,hmt⟩,v,rfl⟩
    obtain⟨r,rfl,hr,hrm,hi⟩:=aH hx;have hrn:=hO.lt r hrm;have hmr:=hmt i r hr;rw[decide_eq_false (E9 i)]at hmr;nofun;refine bX ⋯ ?_;nofun;refine aL (Od (s3 _ _ ta)) ?_;rw[aC];nofun;refine bX ⋯ ?_;nofun;refine bJ (Od tm3) (bg (by rw[DX,hmr];rfl)) ?_;nofun;refine gJ tm3 (iT rfl (by rw[DT];lia)) ?_;rw[<-Nc];refine⟨s3.own hmn,⟨met.set r true,aj,by simpa using hml,λj x e=>?_⟩,_,rfl⟩;rw[Hy];by_cases hrx:r=x
    ·subst hrx
     have:=hO.inj i j r hr e;subst this;rw[if_pos rfl,if_pos ⋯,decide_eq_true ⋯]
    ·rw[if_neg hrx,hmt j x e]
     have:j≠i:=λz=>hrx (by subst z;rw[hr]at e;exact Er e)
     congr 1;exact decide_eq_decide.mpr ⋯
   ·rintro σ H3 ⟨s3,_,v,rfl⟩
    nofun;exact k H3 s3
  ·exact ta.elim
def Cb(K:DU):Sp:=λvs H Q _=>∃(a:Addr) (os:List Nat) (n:Nat),vs=[.ref a,.int n]/\(H a=some (.lst (NV os))\/False)/\Ord os n/\n<=200/\∀H',Same H H'->Q .non H'
theorem iI (T:Tx K mg t):FnOk P t.wd K mg base CX0 2 (t.f 14) (t.d 14) ["thing","many"] (Cb K):=by
 refine okT (N:=["thing","many"]) (T.fn 14 rfl) (λH Q hr nd h=>?_)
 ·obtain⟨a,os,n,rfl,hs,hO,hn,k⟩:=h
  refine⟨_,(aq (aV (Oj (gO (fZ (bB (aI (lK T) hr (T.fn 13 rfl) (ai (qv 0) ae)))) (eY (aD xI (ag (aU (K:=K)) (by rfl) T.bA aO (ai (qv 0) ae)) (qv 1) (az _))))) (aq cm) aK)),?_⟩;dsimp only[st0];nofun;refine⟨a,os,n,rfl,hs,hO,hn,λH1 s1=>?_⟩;nofun;refine⟨a,NV os,rfl,hs.elim (λh=>.inl (Od (s1 _ _ h))) (λh=>h.elim),?_⟩;rw[aC,hO.len];nofun;refine gK rfl ?_;nofun;exact k H1 s1
noncomputable def ob(lk:Bool)(xs:List V):HO:=match lk with|true=>.lst xs|false=>.tup xs
def ThB(lk:Bool)(H:Hp)(v:V):Prop:=Sc v\/∃t xs,v=.ref t/\H t=some (ob lk xs)/\0<xs.length/\xs.length<=2/\∀x∈xs,Sc x
def ThEB(lk:Bool)(H:Hp)(x y:V):Prop:=(Sc x/\y=x)\/∃t u xs,x=.ref t/\y=.ref u/\H t=some (ob lk xs)/\H u=some (ob lk xs)/\0<xs.length/\xs.length<=2/\∀z∈xs,Sc z
theorem ThB.same{H:Hp}(h:ThB lk H v)(s:Same H H1):ThB lk H1 v:=h.elim .inl λ⟨t,xs,e,a,b⟩=>.inr ⟨t,xs,e,s _ _ a,b⟩
theorem ThEB.same{H:Hp}{x:V}(h:ThEB lk H x y)(s:Same H H1):ThEB lk H1 x y:=h.elim .inl λ⟨t,u,xs,e,e',a,a',b⟩=>.inr ⟨t,u,xs,e,e',s _ _ a,s _ _ a',b⟩
def zI:Sp:=λvs H Q _=>∃(lk:Bool) (x:V),vs=[x]/\ThB lk H x/\∀y H',Same H H'->ThEB lk H' x y->Q y H'
theorem lL (T:Tx K mg t):FnOk P t.wd K mg base CX0 1 (t.f 15) (t.d 15) ["thing"] zI:=by
 refine okT (N:=["thing","parts","firsts","part","at"]) (T.fn 15 rfl) (λH Q hr nd h=>?_)
 ·obtain⟨lk,x,rfl,hx,k⟩:=h
  obtain⟨xs,hxl,hxs,hxc⟩:∃xs:List V,xs.length<=2/\(∀z∈xs,Sc z)/\((Sc x/\xs=[])\/∃t,x=.ref t/\H t=some (ob lk xs)/\0<xs.length):=by
   rcases hx with h|⟨t,xs,rfl,ht,h0,h2,hs⟩
   ·exact⟨[],Ec _,(λz hz=>nomatch hz),.inl ⟨h,rfl⟩⟩
   ·exact⟨xs,h2,hs,.inr ⟨t,rfl,ht,h0⟩⟩
  cases lk with
  | false=>
   replace hxc:(Sc x/\xs=[])\/∃t,x=.ref t/\H t=some (.tup xs)/\0<xs.length:=hxc
   refine⟨_,(af (aJ (i:=1) (bo (ai (qv 0) ae)))
   (af (aJ (i:=2) (bo ae))
   (af (cX Em (aD oG (ag (aU (K:=K)) (by rfl) T.bA aO (ai (qv 2) ae)) (ag (aU (K:=K)) (by rfl) T.bA aO (ai (qv 1) ae)) (az _)) (af (aJ (i:=3) (aR (bx (K:=K)) (qv 1) (ag (aU (K:=K)) (by rfl) T.bA aO (ai (qv 2) ae))))
   (af (bN (bL (K:=K) (qv 2) (ai (ag (aU (K:=K)) (by rfl) T.bA aO (ai (qv 1) ae)) ae)))
   (aq (aV (bB (ag (dJ (K:=K)) (by rfl) T.ak ah (ai (qv 3) (ai (ba (ai (aA rfl T.bZ bV (v:=.ty "list") rfl) (ai (aA rfl T.aW aP (v:=.ty "tuple") rfl) ae))) ae)))) (aq (bN (og (K:=K) (qv 1) (ai (qv 3) ae)))) aK)))))
   (af (cf Em rfl (ff rfl T.bW (ai (aG cW (ag (aU (K:=K)) (by rfl) T.bA aO (ai (qv 1) ae)) ao) (ai (gg gh ao) (ai (gg gh ao) ae)))) (aE (i:=4)) (af (aJ (i:=3) (aR (bx (K:=K)) (qv 1) (qv 4)))
   (aq (aV (bB (ag (aN (K:=K)) (by rfl) T.ak ah (ai (qv 3) (ai (aA rfl T.bZ bV (v:=.ty "list") rfl) ae)))) (aq (f7 (cG (ke (K:=K)) (qv 1) (bT (aR (bx (K:=K)) (qv 2) (qv 4))) (bT (aG cI (aR (bx (K:=K)) (qv 2) (qv 4)) (ag (aU (K:=K)) (by rfl) T.bA aO (ai (qv 3) ae))))) (qv 1) (qv 4))) (aq (aV (bB (ag (aN (K:=K)) (by rfl) T.ak ah (ai (qv 3) (ai (aA rfl T.aW aP (v:=.ty "tuple") rfl) ae)))) (aq (f7 (aT (bY (K:=K)) (by rfl) T.aW aP (ai (cG (ke (K:=K)) (qv 1) (bT (aR (bx (K:=K)) (qv 2) (qv 4))) (bT (aG cI (aR (bx (K:=K)) (qv 2) (qv 4)) (ag (aU (K:=K)) (by rfl) T.bA aO (ai (qv 3) ae))))) ae)) (qv 1) (qv 4))) aK))))))
   (aq (ax (aR (bx (K:=K)) (qv 1) ao))))))),?_⟩
   dsimp only[st0];nofun;refine⟨aF (by simp),λpl hpl=>?_⟩;obtain⟨H1,e9,s1,tp1⟩:=nwR hpl (.lst [x]);rw[e9];nofun;refine⟨aF (by simp),λfl hfl=>?_⟩;have hfn:H fl=none:=s1.free hfl;have hpf:pl≠fl:=ay tp1 hfl;obtain⟨H2,e9,s2,e8,(tf2:H2 fl=some (.lst (NV [])))⟩:=nwD s1 hfl (.lst []);rw[e9];have tp2:=e8 _ _ tp1;nofun;refine⟨λc σ H'=>∃(fs:List Nat),c=1+xs.length - fs.length/\fs.length<=1+xs.length/\Same H H'/\H' fl=some (.lst (NV fs))/\((fs=[]/\H' pl=some (.lst [x]))\/(fs[0]? = some 1/\H' pl=some (.lst (x::xs))))/\∃v3 v4,σ=[some x,some (Ou pl),some (Ou fl),v3,v4],⟨_,[],rfl,by simp,s2,tf2,.inl ⟨rfl,tp2⟩,_,_,rfl⟩,?_⟩;rintro c σ H3 ⟨fs,rfl,hfs,s3,tf3,hcase,v3,v4,rfl⟩;rcases hcase with⟨rfl,tp3⟩|⟨hf0,tp3⟩
   ·nofun
    refine aL (Od tf3) ?_;nofun;refine aL (Od tp3) ?_;nofun;refine cN (by show((0:Nat):Int)<((1:Nat):Int);decide) ?_;refine⟨_,λ_ _ z=>z,?_⟩;nofun;refine aL (Od tf3) ?_;nofun;refine⟨bq tf3,?_⟩;nofun;refine aL (Od tp3) ?_;nofun;refine aZ tf3 (au (by simp[aC])) ?_;have s4:=s3.own (o:=.lst (NV [1])) hfn;have tf4:(upd H3 fl (.lst (NV [1]))) fl=some (.lst (NV [1])):=aj;have tp4:(upd H3 fl (.lst (NV [1]))) pl=some (.lst [x]):=by rw[aB hpf];exact tp3
    have eap:NV []++[Of (([x]:List V).length:Nat)]=NV [1]:=rfl;rw[eap];generalize upd H3 fl (.lst (NV [1]))=H4 at s4 tf4 tp4;nofun;refine⟨aF (by simp),λtp htp=>?_⟩;obtain⟨H5,e9,s5,e8,ttp⟩:=nwD s4 htp (.tup [V.ty "list",V.ty "tuple"]);rw[e9];have tf5:=e8 _ _ tf4;have tp5:=e8 _ _ tp4;nofun;rcases hxc with⟨hsc,rfl⟩|⟨t,rfl,ht,h0⟩
    ·refine dw ttp hsc ?_
     nofun;exact⟨_,by simp,[1],rfl,by simp,s5,tf5,.inr ⟨rfl,tp5⟩,_,_,rfl⟩
    ·refine mR (s5 _ _ ht) ttp ?_
     nofun;refine⟨bq tp5,?_⟩;nofun;refine oh tp5 (s5 _ _ ht) (aF (by simp;lia)) ?_;exact⟨_,by simp,[1],rfl,by simp,s5.own hpl,by rw[aB (E5 hpf)];exact tf5,.inr ⟨rfl,aj⟩,_,_,rfl⟩
   ·have hf1:0<fs.length:=br hf0
    nofun;refine aL (Od tf3) ?_;rw[aC];nofun;refine aL (Od tp3) ?_;rw[Ej];nofun;refine a9 (λg=>?_) (λg=>?_)
    ·refine⟨_,λ_ _ z=>z,?_⟩
     have hlt:fs.length<1+xs.length:=by lia
     obtain⟨i,hi⟩:∃i,fs.length=i+1:=⟨fs.length - 1,by lia⟩
     have hix:i<xs.length:=by lia
     have hget:(x::xs)[fs.length]? = some xs[i]:=by rw[hi,GE,DR hix]
     nofun;refine aL (Od tf3) ?_;rw[aC];refine bJ (Od tp3) (v:=xs[i]) (bg hget) ?_;have hsc:=hxs _ (D1 hix);generalize xs[i]=part at hsc;nofun;refine⟨bq tf3,?_⟩;nofun;refine aL (Od tp3) ?_;rw[Ej];nofun;refine aZ tf3 (by rw[aC];exact au ⋯) ?_;rw[bU];obtain⟨H4,e9,s4,tf4,e8⟩:=owS s3 hfn (.lst (NV (fs++[xs.length+1])));rw[e9];have tp4:=e8 _ _ hpf tp3;nofun;refine⟨aF (by simp),λtp htp=>?_⟩;obtain⟨H5,e9,s5,e8,ttp⟩:=nwD s4 htp (.tup [V.ty "list",V.ty "tuple"]);rw[e9];have tf5:=e8 _ _ tf4;have tp5:=e8 _ _ tp4;nofun;refine dw ttp hsc ?_;nofun;exact⟨_,by rw[D8,EV];lia,fs++[xs.length+1],rfl,by rw[D8,EV];lia,s5,tf5,.inr ⟨by rw[Ek hf1];exact hf0,tp5⟩,_,_,rfl⟩
    ·have hfl2:fs.length=1+xs.length:=by lia
     nofun;refine aL (Od tp3) ?_;rw[Ej];nofun;refine⟨xs.length+1,rfl,by lia,eF (n:=xs.length+1) (λj σ H'=>Same H H'/\H' fl=some (.lst (NV fs))/\(∃y,H' pl=some (.lst (y::xs))/\(j<xs.length+1->y=x)/\(j=xs.length+1->ThEB false H' x y))/\∃v3 v4,σ=[some x,some (Ou pl),some (Ou fl),v3,v4]) ⟨s3,tf3,⟨x,tp3,λ_=>rfl,λh=>by lia⟩,_,_,rfl⟩ (λi σ H' hi _=>hi) (λσ H' _=>DY _) ?_ ?_⟩
     ·rintro j x0 σ H4o H4 hj ⟨s4,tf4,⟨y,tp4,hy1,hy2⟩,v3,v4,rfl⟩ ⟨rfl,rfl⟩
      have hyx:=hy1 hj;subst hyx;by_cases hjm:j=xs.length
      ·have e0:xs.length+1 - 1 - j=0:=by lia
       rw[e0];nofun;refine bJ (Od tp4) (v:=y) (bg (j:=0) rfl) ?_;nofun;rcases hxc with⟨hsc,hxn⟩|⟨t,hyt,ht,h0⟩
       ·refine gA hsc ?_
        nofun;refine gB hsc ?_;nofun;exact⟨s4,tf4,⟨y,tp4,λ_=>rfl,λ_=>.inl ⟨hsc,rfl⟩⟩,_,_,rfl⟩
       ·rw[hyt]
        have ht4:=s4 _ _ ht;refine iu ht4 ?_;nofun;refine js ht4 ?_;nofun;refine bJ (Od tf4) (gm (i:=0) rfl hf0) ?_;nofun;refine⟨_,rfl,?_⟩;nofun;refine bJ (Od tf4) (gm (i:=0) rfl hf0) ?_;nofun;refine jr (Oe ht4) ?_;nofun;refine⟨_,rfl,?_⟩;refine⟨pl,_,rfl,Od tp4,λz hz=>?_⟩;have ecut:iA (y::xs) (some ((1:Nat):Int)) (some (((1:Nat):Int)+(xs.length:Nat)))=xs:=by
         have e1:((1:Nat):Int)+(xs.length:Nat)=((1+xs.length:Nat):Int):=by lia
         unfold iA;rw[e1,HT.dm,HT.dm,Ej];have m1:min 1 (xs.length+1)=1:=by lia
         have m2:min (1+xs.length) (xs.length+1)=xs.length+1:=by lia
         rw[m1,m2,IA,EB,DW ⋯]
        rw[ecut];obtain⟨H5,e9,s5,e8,tz⟩:=nwD s4 hz (.lst xs);rw[e9];have tf5:=e8 _ _ tf4;have tp5:=e8 _ _ tp4;nofun;refine df (Od tz) λu hu=>?_
        obtain⟨H6,e9,s6,e8,tu⟩:=nwD s5 hu (.tup xs);rw[e9];have tf6:=e8 _ _ tf5;have tp6:=e8 _ _ tp5;have hup:u≠pl:=λe=>by rw[e,tp5]at hu;cases hu
        nofun;refine gJ tp6 (iT (i:=0) rfl (by simp)) ?_;have s7:=s6.own (o:=.lst ((y::xs).set 0 (Ou u))) hpl;refine⟨s7,by rw[aB (E5 hpf)];exact tf6,⟨Ou u,by rw[aj];rfl,λh=>by lia,λ_=>.inr ⟨t,u,xs,rfl,rfl,s7 _ _ ht,by rw[aB hup];exact tu,h0,hxl,hxs⟩⟩,_,_,rfl⟩
      ·obtain⟨i,hi,hil⟩:∃i,xs.length+1 - 1 - j=i+1/\i<xs.length:=⟨xs.length - j - 1,by lia,by lia⟩
       rw[hi];have hsc:=hxs _ (D1 hil);nofun;refine bJ (Od tp4) (v:=xs[i]) (bg (by rw[GE,DR hil])) ?_;generalize xs[i]=part at hsc;nofun;refine gA hsc ?_;nofun;refine gB hsc ?_;nofun;exact⟨s4,tf4,⟨y,tp4,λ_=>rfl,λh=>by lia⟩,_,_,rfl⟩
     ·rintro σ H4 ⟨s4,tf4,⟨y,tp4,hy1,hy2⟩,v3,v4,rfl⟩
      nofun;refine bJ (Od tp4) (v:=y) (bg (j:=0) rfl) ?_;exact k y H4 s4 (hy2 rfl)
  | true=>
   replace hxc:(Sc x/\xs=[])\/∃t,x=.ref t/\H t=some (.lst xs)/\0<xs.length:=hxc
   refine⟨_,(af (aJ (i:=1) (bo (ai (qv 0) ae)))
   (af (aJ (i:=2) (bo ae))
   (af (cX Em (aD oG (ag (aU (K:=K)) (by rfl) T.bA aO (ai (qv 2) ae)) (ag (aU (K:=K)) (by rfl) T.bA aO (ai (qv 1) ae)) (az _)) (af (aJ (i:=3) (aR (bx (K:=K)) (qv 1) (ag (aU (K:=K)) (by rfl) T.bA aO (ai (qv 2) ae))))
   (af (bN (bL (K:=K) (qv 2) (ai (ag (aU (K:=K)) (by rfl) T.bA aO (ai (qv 1) ae)) ae)))
   (aq (aV (bB (ag (dJ (K:=K)) (by rfl) T.ak ah (ai (qv 3) (ai (ba (ai (aA rfl T.bZ bV (v:=.ty "list") rfl) (ai (aA rfl T.aW aP (v:=.ty "tuple") rfl) ae))) ae)))) (aq (bN (gX (K:=K) (qv 1) (ai (qv 3) ae)))) aK)))))
   (af (cf Em rfl (ff rfl T.bW (ai (aG cW (ag (aU (K:=K)) (by rfl) T.bA aO (ai (qv 1) ae)) ao) (ai (gg gh ao) (ai (gg gh ao) ae)))) (aE (i:=4)) (af (aJ (i:=3) (aR (bx (K:=K)) (qv 1) (qv 4)))
   (aq (aV (bB (ag (aN (K:=K)) (by rfl) T.ak ah (ai (qv 3) (ai (aA rfl T.bZ bV (v:=.ty "list") rfl) ae)))) (aq (f7 (cG (ke (K:=K)) (qv 1) (bT (aR (bx (K:=K)) (qv 2) (qv 4))) (bT (aG cI (aR (bx (K:=K)) (qv 2) (qv 4)) (ag (aU (K:=K)) (by rfl) T.bA aO (ai (qv 3) ae))))) (qv 1) (qv 4))) (aq (aV (bB (ag (aN (K:=K)) (by rfl) T.ak ah (ai (qv 3) (ai (aA rfl T.aW aP (v:=.ty "tuple") rfl) ae)))) (aq (f7 (aT (bY (K:=K)) (by rfl) T.aW aP (ai (cG (ke (K:=K)) (qv 1) (bT (aR (bx (K:=K)) (qv 2) (qv 4))) (bT (aG cI (aR (bx (K:=K)) (qv 2) (qv 4)) (ag (aU (K:=K)) (by rfl) T.bA aO (ai (qv 3) ae))))) ae)) (qv 1) (qv 4))) aK))))))
   (aq (ax (aR (bx (K:=K)) (qv 1) ao))))))),?_⟩
   dsimp only[st0];nofun;refine⟨aF (by simp),λpl hpl=>?_⟩;obtain⟨H1,e9,s1,tp1⟩:=nwR hpl (.lst [x]);rw[e9];nofun;refine⟨aF (by simp),λfl hfl=>?_⟩;have hfn:H fl=none:=s1.free hfl;have hpf:pl≠fl:=ay tp1 hfl;obtain⟨H2,e9,s2,e8,(tf2:H2 fl=some (.lst (NV [])))⟩:=nwD s1 hfl (.lst []);rw[e9];have tp2:=e8 _ _ tp1;nofun;refine⟨λc σ H'=>∃(fs:List Nat),c=1+xs.length - fs.length/\fs.length<=1+xs.length/\Same H H'/\H' fl=some (.lst (NV fs))/\((fs=[]/\H' pl=some (.lst [x]))\/(fs[0]? = some 1/\H' pl=some (.lst (x::xs))))/\∃v3 v4,σ=[some x,some (Ou pl),some (Ou fl),v3,v4],⟨_,[],rfl,by simp,s2,tf2,.inl ⟨rfl,tp2⟩,_,_,rfl⟩,?_⟩;rintro c σ H3 ⟨fs,rfl,hfs,s3,tf3,hcase,v3,v4,rfl⟩;rcases hcase with⟨rfl,tp3⟩|⟨hf0,tp3⟩
   ·nofun
    refine aL (Od tf3) ?_;nofun;refine aL (Od tp3) ?_;nofun;refine cN (by show((0:Nat):Int)<((1:Nat):Int);decide) ?_;refine⟨_,λ_ _ z=>z,?_⟩;nofun;refine aL (Od tf3) ?_;nofun;refine⟨bq tf3,?_⟩;nofun;refine aL (Od tp3) ?_;nofun;refine aZ tf3 (au (by simp[aC])) ?_;have s4:=s3.own (o:=.lst (NV [1])) hfn;have tf4:(upd H3 fl (.lst (NV [1]))) fl=some (.lst (NV [1])):=aj;have tp4:(upd H3 fl (.lst (NV [1]))) pl=some (.lst [x]):=by rw[aB hpf];exact tp3
    have eap:NV []++[Of (([x]:List V).length:Nat)]=NV [1]:=rfl;rw[eap];generalize upd H3 fl (.lst (NV [1]))=H4 at s4 tf4 tp4;nofun;refine⟨aF (by simp),λtp htp=>?_⟩;obtain⟨H5,e9,s5,e8,ttp⟩:=nwD s4 htp (.tup [V.ty "list",V.ty "tuple"]);rw[e9];have tf5:=e8 _ _ tf4;have tp5:=e8 _ _ tp4;nofun;rcases hxc with⟨hsc,rfl⟩|⟨t,rfl,ht,h0⟩
    ·refine dw ttp hsc ?_
     nofun;exact⟨_,by simp,[1],rfl,by simp,s5,tf5,.inr ⟨rfl,tp5⟩,_,_,rfl⟩
    ·refine mQ (s5 _ _ ht) ttp ?_
     nofun;refine⟨bq tp5,?_⟩;nofun;refine g9 tp5 (s5 _ _ ht) (aF (by simp;lia)) ?_;exact⟨_,by simp,[1],rfl,by simp,s5.own hpl,by rw[aB (E5 hpf)];exact tf5,.inr ⟨rfl,aj⟩,_,_,rfl⟩
   ·have hf1:0<fs.length:=br hf0
    nofun;refine aL (Od tf3) ?_;rw[aC];nofun;refine aL (Od tp3) ?_;rw[Ej];nofun;refine a9 (λg=>?_) (λg=>?_)
    ·refine⟨_,λ_ _ z=>z,?_⟩
     have hlt:fs.length<1+xs.length:=by lia
     obtain⟨i,hi⟩:∃i,fs.length=i+1:=⟨fs.length - 1,by lia⟩
     have hix:i<xs.length:=by lia
     have hget:(x::xs)[fs.length]? = some xs[i]:=by rw[hi,GE,DR hix]
     nofun;refine aL (Od tf3) ?_;rw[aC];refine bJ (Od tp3) (v:=xs[i]) (bg hget) ?_;have hsc:=hxs _ (D1 hix);generalize xs[i]=part at hsc;nofun;refine⟨bq tf3,?_⟩;nofun;refine aL (Od tp3) ?_;rw[Ej];nofun;refine aZ tf3 (by rw[aC];exact au ⋯) ?_;rw[bU];obtain⟨H4,e9,s4,tf4,e8⟩:=owS s3 hfn (.lst (NV (fs++[xs.length+1])));rw[e9];have tp4:=e8 _ _ hpf tp3;nofun;refine⟨aF (by simp),λtp htp=>?_⟩;obtain⟨H5,e9,s5,e8,ttp⟩:=nwD s4 htp (.tup [V.ty "list",V.ty "tuple"]);rw[e9];have tf5:=e8 _ _ tf4;have tp5:=e8 _ _ tp4;nofun;refine dw ttp hsc ?_;nofun;exact⟨_,by rw[D8,EV];lia,fs++[xs.length+1],rfl,by rw[D8,EV];lia,s5,tf5,.inr ⟨by rw[Ek hf1];exact hf0,tp5⟩,_,_,rfl⟩
    ·have hfl2:fs.length=1+xs.length:=by lia
     nofun;refine aL (Od tp3) ?_;rw[Ej];nofun;refine⟨xs.length+1,rfl,by lia,eF (n:=xs.length+1) (λj σ H'=>Same H H'/\H' fl=some (.lst (NV fs))/\(∃y,H' pl=some (.lst (y::xs))/\(j<xs.length+1->y=x)/\(j=xs.length+1->ThEB true H' x y))/\∃v3 v4,σ=[some x,some (Ou pl),some (Ou fl),v3,v4]) ⟨s3,tf3,⟨x,tp3,λ_=>rfl,λh=>by lia⟩,_,_,rfl⟩ (λi σ H' hi _=>hi) (λσ H' _=>DY _) ?_ ?_⟩
     ·rintro j x0 σ H4o H4 hj ⟨s4,tf4,⟨y,tp4,hy1,hy2⟩,v3,v4,rfl⟩ ⟨rfl,rfl⟩
      have hyx:=hy1 hj;subst hyx;by_cases hjm:j=xs.length
      ·have e0:xs.length+1 - 1 - j=0:=by lia
       rw[e0];nofun;refine bJ (Od tp4) (v:=y) (bg (j:=0) rfl) ?_;nofun;rcases hxc with⟨hsc,hxn⟩|⟨t,hyt,ht,h0⟩
       ·refine gA hsc ?_
        nofun;refine gB hsc ?_;nofun;exact⟨s4,tf4,⟨y,tp4,λ_=>rfl,λ_=>.inl ⟨hsc,rfl⟩⟩,_,_,rfl⟩
       ·rw[hyt]
        have ht4:=s4 _ _ ht;refine jt ht4 ?_;nofun;refine bJ (Od tf4) (gm (i:=0) rfl hf0) ?_;nofun;refine⟨_,rfl,?_⟩;nofun;refine bJ (Od tf4) (gm (i:=0) rfl hf0) ?_;nofun;refine aL (Od ht4) ?_;nofun;refine⟨_,rfl,?_⟩;refine⟨pl,_,rfl,Od tp4,λz hz=>?_⟩;have ecut:iA (y::xs) (some ((1:Nat):Int)) (some (((1:Nat):Int)+(xs.length:Nat)))=xs:=by
         have e1:((1:Nat):Int)+(xs.length:Nat)=((1+xs.length:Nat):Int):=by lia
         unfold iA;rw[e1,HT.dm,HT.dm,Ej];have m1:min 1 (xs.length+1)=1:=by lia
         have m2:min (1+xs.length) (xs.length+1)=xs.length+1:=by lia
         rw[m1,m2,IA,EB,DW ⋯]
        rw[ecut];obtain⟨H5,e9,s5,e8,tz⟩:=nwD s4 hz (.lst xs);rw[e9];have tf5:=e8 _ _ tf4;have tp5:=e8 _ _ tp4;nofun;refine gJ tp5 (iT (i:=0) rfl (by simp)) ?_;have hzp:z≠pl:=λe=>by rw[e,tp4]at hz;cases hz
        have s7:=s5.own (o:=.lst ((y::xs).set 0 (Ou z))) hpl;refine⟨s7,by rw[aB (E5 hpf)];exact tf5,⟨Ou z,by rw[aj];rfl,λh=>by lia,λ_=>.inr ⟨t,z,xs,rfl,rfl,s7 _ _ ht,by show(upd H5 pl _) z=_;rw[aB hzp];exact tz,h0,hxl,hxs⟩⟩,_,_,rfl⟩
      ·obtain⟨i,hi,hil⟩:∃i,xs.length+1 - 1 - j=i+1/\i<xs.length:=⟨xs.length - j - 1,by lia,by lia⟩
       rw[hi];have hsc:=hxs _ (D1 hil);nofun;refine bJ (Od tp4) (v:=xs[i]) (bg (by rw[GE,DR hil])) ?_;generalize xs[i]=part at hsc;nofun;refine gA hsc ?_;nofun;refine gB hsc ?_;nofun;exact⟨s4,tf4,⟨y,tp4,λ_=>rfl,λh=>by lia⟩,_,_,rfl⟩
     ·rintro σ H4 ⟨s4,tf4,⟨y,tp4,hy1,hy2⟩,v3,v4,rfl⟩
      nofun;refine bJ (Od tp4) (v:=y) (bg (j:=0) rfl) ?_;exact k y H4 s4 (hy2 rfl)
def Cc:Sp:=λvs H Q _=>∃(lk:Bool) (a c:Addr) (zs:List V) (os:List Nat) (n:Nat),vs=[.ref a,.ref c]/\(H a=some (.lst zs)\/H a=some (.tup zs))/\(∀z∈zs,ThB lk H z)/\zs.length=n/\(H c=some (.lst (NV os))\/False)/\Ord os n/\n<=200/\
 ∀(l:Addr) (ys:List V) H',H l=none->Same H H'->H' l=some (.lst ys)->ys.length=n->(∀(k o:Nat) z,os[k]? = some o->zs[o]? = some z->∃y,ys[k]? = some y/\ThEB lk H' z y)->Q (.ref l) H'
theorem qT{K:DU}{H:Hp}{Q:VK}{p:Addr}(s:H p=some (.lst xs)\/H p=some (.tup xs))(h:Q (.int xs.length) H):yJ K [.ref p] H Q:=s.elim (λs=>aL (Od s) h) (λs=>jr (Oe s) h)
theorem lM{H:Hp}{p:Addr}(s:H p=some (.lst xs)\/H p=some (.tup xs))(e:Same H H1):H1 p=some (.lst xs)\/H1 p=some (.tup xs):=s.elim (λh=>.inl (e _ _ h)) (λh=>.inr (e _ _ h))
theorem zJ (T:Tx K mg t):FnOk P t.wd K mg base CX0 3 (t.f 16) (t.d 16) ["things","order"] Cc:=by
 refine okT (N:=["things","order"]) (T.fn 16 rfl) (λH Q hr nd h=>?_)
 ·obtain⟨lk,a,c,zs,os,n,rfl,ha,hT,hzn,hc,hO,hn,k⟩:=h
  have hlen:=hO.len;rcases hc with tc|tc
  ·refine⟨_,(af (bN (aI (iI T) hr (T.fn 14 rfl) (ai (qv 1) (ai (ag (aU (K:=K)) (by rfl) T.bA aO (ai (qv 0) ae)) ae))))
   (aq (ax (bj (N:=["place","things"]) (tgs:=["place"]) (frs:=["things"]) (ix:=[0]) ⟨rfl,by decide +kernel,rfl,by decide +kernel,rfl,rfl,⟨⟨rfl,rfl,_,rfl,rfl⟩,D3⟩,⟨rfl,D3⟩,rfl⟩ rfl (aS (K:=K) (qv 1)) (λ_ _ _ _=>(aE (i:=0))) (λ_ _ _ _=>(aI (lL T) hr (T.fn 15 rfl) (ai (aR (BS (K:=K)) (qv 1) (qv 0)) ae))))))),?_⟩
   dsimp only[st0];nofun;refine qT ha ?_;rw[hzn];nofun;refine⟨c,os,n,rfl,.inl tc,hO,hn,λH1 s1=>?_⟩;have tc1:=s1 _ _ tc;nofun;refine⟨c,rfl,⟨_,Od tc1⟩,bf (a:=c) (vs:=NV os) (λi ys σ H'=>Same H1 H'/\ys.length=i/\(∀(k o:Nat) z,k<i->os[k]? = some o->zs[o]? = some z->∃y,ys[k]? = some y/\ThEB lk H' z y)/\∃v,σ=[v,some (Ou a)]) (by rw[aC];exact au ⋯) (λi ys σ H' h=>h.2.1) (λi ys σ H' h=>Od (h.1 _ _ tc1)) ⟨Oi _,rfl,λk o z h=>absurd h (Mh _),none,rfl⟩ ?_ ?_⟩
   ·rintro i ys σ H2 x hx ⟨s2,hyl,hys,v,rfl⟩
    have hil:=br hx;obtain⟨o,rfl,ho,hom,hi⟩:=aH hx;have hon:o<zs.length:=by rw[hzn];exact hO.lt o hom
    have hz:=(hT _ (D1 hon)).same (s1.trans s2);nofun;refine zc (lM ha (s1.trans s2)) (v:=zs[o]) (bg (by simp[hon])) ?_;refine⟨lk,zs[o],rfl,hz,λy H3 s3 hy=>?_⟩;refine Ol hil ⟨s2.trans s3,by simp[hyl],λk' o' z' hk' e1 e2=>?_,_,rfl⟩;by_cases e:k'=i
    ·subst e
     rw[ho]at e1;cases e1;rw[DR hon]at e2;cases e2;exact⟨y,by rw[EE ⋯,hyl,Nk];rfl,hy⟩
    ·obtain⟨y',g1,g2⟩:=hys k' o' z' ⋯ e1 e2
     exact⟨y',by rw[Ek (br g1)];exact g1,g2.same s3⟩
   ·rintro ys σ H2 ⟨s2,hyl,hys,v,rfl⟩ l hl
    rw[aC]at hyl hys;refine k l ys _ (s1.free (s2.free hl)) ((s1.trans s2).new hl) aj ⋯ λk' o z e1 e2=>?_
    obtain⟨y,g1,g2⟩:=hys k' o z (br e1) e1 e2;exact⟨y,g1,g2.same ((Oi H2).new hl)⟩
  ·exact tc.elim
def RowsT(H:Hp)(ps:List Addr)(rss:List (List Nat)):Prop:=ps.length=rss.length/\∀(i:Nat) p r,ps[i]? = some p->rss[i]? = some r->H p=some (.tup (NV r))
theorem RowsT.same{H:Hp}{rss:List (List Nat)}(h:RowsT H ps rss)(e:Same H H1):RowsT H1 ps rss:=⟨h.1,λi p z a c=>e _ _ (h.2 i p z a c)⟩
theorem RowsT.snoc{H:Hp}{rss:List (List Nat)}{p:Addr}(h:RowsT H ps rss)(e:H p=some (.tup (NV r))):RowsT H (ps++[p]) (rss++[r]):=by
 refine⟨by simp[h.1],λi q y a c=>?_⟩;rcases aX a with⟨l,a⟩|⟨l,a⟩
 ·rcases aX c with⟨_,c⟩|⟨l',c⟩
  ·exact h.2 i q y a c
  ·have:=h.1;lia
 ·rcases aX c with⟨l',c⟩|⟨_,c⟩
  ·have:=h.1;lia
  ·rw[a,c];exact e
def uX(rss:List (List Nat))(w b:Nat):Prop:=∀r∈rss,r.length=w/\∀x∈r,x<b
theorem lN{rss:List (List Nat)}{w:Nat}(h:uX rss w b)(hr:rss[i]? = some r)(hc:c<w):r[c]? = some (r.getD c 0)/\(bD rss c)[i]? = some (r.getD c 0):=by
 have hl:=(h r (Ew hr)).1;constructor
 ·have:c<r.length:=by lia
  simp[this]
 ·unfold bD
  rw[DX,hr];rfl
theorem i8{rss:List (List Nat)}{w:Nat}(h:uX rss w b)(hc:c<w):∀o∈bD rss c,o<b:=λo ho=>by
 obtain⟨r,hr,rfl⟩:=D4.mp ho;obtain⟨h1,h2⟩:=h r hr;have:c<r.length:=by lia
 apply h2;rw[DS,DR this];exact D1 this
theorem iw(rss:List (List Nat))(c:Nat):(bD rss c).length=rss.length:=by simp[bD]
def tR:Sp:=λvs H Q _=>∃(a:Addr) (os:List Nat) (b:Nat),vs=[.ref a,.int b]/\(H a=some (.lst (NV os))/\True)/\(∀o∈os,o<b)/\os.length<=200/\b<=64/\∀(l:Addr) H',H l=none->Same H H'->H' l=some (.lst (NV (cnt os b)))->Q (.ref l) H'
theorem fH (T:Tx K mg t):FnOk P t.wd K mg base CX0 1 (t.f 0) (t.d 0) ["row","base"] tR:=by
 refine okT (N:=["row","base","often","figure"]) (T.fn 0 rfl) (λH Q hr nd h=>?_)
 ·obtain⟨a,os,b,rfl,ta,hob,hol,hb,k⟩:=h
  obtain⟨ta,_⟩:=ta
  ·refine⟨_,(af (aJ (i:=2) (aG sq (bo (ai ao ae)) (qv 1)))
   (af (cf Em rfl (aS (K:=K) (qv 0)) (aE (i:=3)) (aq (mJ (K:=K) (qv 2) (qv 3) ao)))
   (aq (ax (qv 2))))),?_⟩
   dsimp only[st0];nofun;refine⟨aF (by simp),λq0 hq0=>?_⟩;obtain⟨H2,e9,s2,t0⟩:=nwR hq0 (.lst [Of 0]);rw[e9];nofun;refine⟨q0,_,_,rfl,rfl,t0,by lia,by lia,aF (by simp;lia),λm hm=>?_⟩;have efl:(Ef ((b:Nat):Int).toNat [Of 0]).flatten=NV (cnt [] b):=by
    show(Ef b [Of 0]).flatten=_
    rw[GC,NV,L2.cnt,ED];apply GX (by simp);intro i h1 h2;simp
   rw[efl];have hmn:H m=none:=s2.free hm;obtain⟨H3,e9,s3,tm⟩:=nwS s2 hm (.lst (NV (cnt [] b)));rw[e9];nofun;refine⟨a,rfl,⟨_,Od (s3 _ _ ta)⟩,cF (a:=a) (xs:=NV os) (λi σ H'=>Same H H'/\H' m=some (.lst (NV (cnt (os.take i) b)))/\∃v,σ=[some (Ou a),some (Of b),some (Ou m),v]) ⟨s3,tm,none,rfl⟩ (λi σ H' _ h=>Od (h.1 _ _ ta)) ?_ ?_⟩
   ·rintro i x σ H4 hx ⟨s4,tm4,v,rfl⟩
    obtain⟨o,rfl,ho,hom,hi⟩:=aH hx;have hlt:=hob o hom;nofun;refine⟨m,_,_,_,rfl,rfl,Od tm4,by lia,fe (cS hlt),?_⟩;nofun;refine⟨_,_,rfl,rfl,?_⟩;refine gJ tm4 (iT rfl (by rw[aC,bF];exact hlt)) ?_;refine⟨s4.own hmn,?_,_,rfl⟩;rw[aj,D7,ho];show some (HO.lst ((NV (cnt (os.take i) b)).set o (Of ((((os.take i).count o+1:Nat)):Int))))=some (HO.lst (NV (cnt (os.take i++[o]) b)))
    rw[mH,sN hlt]
   ·rintro σ H4 ⟨s4,tm4,v,rfl⟩
    rw[DW (by rw[aC];exact DY _)]at tm4;nofun;exact k m H4 hmn s4 tm4
def tT:Sp:=λvs H Q _=>∃(a:Addr) (os:List Nat),vs=[.ref a]/\(H a=some (.lst (NV os))\/False)/\os.length<=64/\∀H',Same H H'->Q (.bl (cq os)) H'
theorem kI{os:List Nat}{o:Nat}(h:os[i]? = some o):iB (os.take (i+1))=iB (os.take i)++(if 0<o then[o]else[]):=by
 unfold iB;rw[D7,h,FC];congr 1;simp only[KJ];split<;>simp_all
theorem tU(os:List Nat)(i:Nat):(iB (os.take i)).length<=i:=by
 refine ET (Ge _ _) ?_;rw[Ee];lia
theorem dP (T:Tx K mg t):FnOk P t.wd K mg base CX0 1 (t.f 5) (t.d 5) ["often"] tT:=by
 refine okT (N:=["often"]) (T.fn 5 rfl) (λH Q hr nd h=>?_)
 ·obtain⟨a,os,rfl,ha,hol,k⟩:=h
  have e9:decide (((iB os).length:Int) > 1)=cq os:=by
   unfold cq;exact decide_eq_decide.mpr ⋯
  rcases ha with ta|ta
  ·refine⟨_,(aq (ax (aQ rA (ag (aU (K:=K)) (by rfl) T.bA aO (ai (mI (N:=["many"]) (tgs:=["many"]) (frs:=[]) (ix:=[]) ⟨rfl,by decide +kernel,rfl,by decide +kernel,rfl,rfl,D3,D3,rfl⟩ rfl (aS (K:=K) (qv 0)) (λ_ _ _ _=>(aE (i:=0))) (λ_ _ _ _=>(qv 0)) (λ_ _ _ _=>(aD rA (qv 0) ao (az _)))) ae)) ao (az _)))),?_⟩
   dsimp only[st0];nofun;refine⟨a,rfl,⟨_,Od ta⟩,kl (a:=a) (vs:=NV os) (λi ys σ H'=>H'=H/\ys=NV (iB (os.take i))/\∃v,σ=[v]) (by rw[aC];exact au ⋯) (λi ys σ H' h=>by rw[h.2.1,aC];exact tU os i) (λi ys σ H' h=>by rw[h.1];exact Od ta) ⟨rfl,rfl,none,rfl⟩ ?_ ?_⟩
   ·rintro i ys σ H' x hx ⟨rfl,rfl,v,rfl⟩
    have hil:=br hx;obtain⟨o,rfl,ho,_,_⟩:=aH hx;nofun;refine a9 (λg=>?_) (λg=>?_)
    ·nofun
     refine Ol hil ⟨rfl,?_,_,rfl⟩;rw[bU,kI ho,if_pos ⋯]
    ·refine Ol hil ⟨rfl,?_,_,rfl⟩
     rw[kI ho,if_neg ⋯,E1]
   ·rintro ys σ H' ⟨rfl,rfl,v,rfl⟩ l hl
    rw[DW (by rw[aC];exact DY _)];nofun;refine aL (Od aj) ?_;rw[aC];nofun;rw[e9];exact k _ ((Oi H').new hl)
  ·exact ta.elim
def zK(K:DU):Sp:=λvs H Q _=>∃(a:Addr) (ps:List Addr) (rss:List (List Nat)) (w:Nat),vs=[.ref a]/\H a=some (.lst (ps.map Ou))/\ps.length=rss.length/\(∀p,ps[0]? = some p->∃zs,(H p=some (.lst zs)\/H p=some (.tup zs))/\zs.length=w)/\Q (.int ((if rss=[]then 0 else w:Nat):Int)) H
theorem cy (T:Tx K mg t):FnOk P t.wd K mg base CX0 1 (t.f 2) (t.d 2) ["rows"] (zK K):=by
 refine okT (N:=["rows"]) (T.fn 2 rfl) (λH Q hr nd h=>?_)
 ·obtain⟨a,ps,rss,w,rfl,ta,hl,hw,k⟩:=h
  refine⟨_,(af (aV (fZ (gv (K:=K) (qv 0))) (aq (ax ao)) aK)
   (aq (ax (ag (aU (K:=K)) (by rfl) T.bA aO (ai (aR (bx (K:=K)) (qv 0) ao) ae))))),?_⟩
  dsimp only[st0];nofun;refine⟨_,BK (Od ta),?_⟩;cases ps with
  | nil=>
   have:rss=[]:=Fi.mp hl.symm;rw[if_pos this]at k;nofun;exact k
  | cons p r=>
   have:rss≠[]:=λz=>by rw[z]at hl;simp at hl
   rw[if_neg this]at k;obtain⟨zs,hz,hzl⟩:=hw p rfl;refine cH ?_;nofun;refine bJ (Od ta) (v:=Ou p) (bg (j:=0) rfl) ?_;nofun;refine⟨p,zs,rfl,hz.elim (λh=>.inl (Od h)) (λh=>.inr (Oe h)),?_⟩;rw[hzl];nofun;exact k
def xh(K:DU):Sp:=λvs H Q _=>∃(a:Addr) (ps:List Addr) (rss:List (List Nat)) (w b:Nat),vs=[.ref a,.int b]/\H a=some (.lst (ps.map Ou))/\RowsT H ps rss/\uX rss w b/\rss.length<=200/\w<=200/\b<=64/\
 ∀(l:Addr) (qs:List Addr) H',H l=none->(∀q∈qs,H q=none)->l∉qs->Same H H'->H' l=some (.lst (qs.map Ou))->LsAt H' qs (bt rss w b)->Q (.ref l) H'
theorem tV (T:Tx K mg t):FnOk P t.wd K mg base CX0 2 (t.f 3) (t.d 3) ["rows","base"] (xh K):=by
 refine okT (N:=["rows","base"]) (T.fn 3 rfl) (λH Q hr nd h=>?_)
 ·obtain⟨a,ps,rss,w,b,rfl,ta,hR,hG,hn,hw,hb,k⟩:=h
  have hpl:ps.length=rss.length:=hR.1;have hW:(if rss=[]then 0 else w)<=w:=by split<;>lia
  have hcols:∀p,ps[0]? = some p->∃zs,(H p=some (.lst zs)\/H p=some (.tup zs))/\zs.length=w:=λp hp=>by
   have h0:0<rss.length:=by rw[<-hpl];exact br hp
   have hl:=(hG rss[0] (D1 h0)).1;have e0:rss[0]? = some rss[0]:=by simp
   exact⟨_,.inr (hR.2 0 p _ hp e0),by rw[aC];exact hl⟩
  ·refine⟨_,(aq (ax (sL (xc:="column") (N:=["column","rows","base"]) (tgs:=["column"]) (frs:=["rows","base"]) (ix:=[0,1]) ⟨rfl,λ_=>rfl,λ_=>rfl,rfl,by decide +kernel,rfl,rfl,⟨⟨rfl,rfl,_,rfl,rfl⟩,⟨rfl,rfl,_,rfl,rfl⟩,D3⟩,by decide +kernel,⟨rfl,rfl,D3⟩,rfl⟩ rfl (cR rfl T.bW (ai (aI (cy T) hr (T.fn 2 rfl) (ai (qv 0) ae)) ae)) (λ_ _ _ _=>(aE (i:=0))) (λ_ _ _ _=>(aI (fH T) hr (T.fn 0 rfl) (ai (bj (N:=["row","column"]) (tgs:=["row"]) (frs:=["column"]) (ix:=[0]) ⟨rfl,by decide +kernel,rfl,by decide +kernel,rfl,rfl,⟨⟨rfl,rfl,_,rfl,rfl⟩,D3⟩,⟨rfl,D3⟩,rfl⟩ rfl (aS (K:=K) (qv 1)) (λ_ _ _ _=>(aE (i:=0))) (λ_ _ _ _=>(aR (eZ (K:=K)) (qv 0) (qv 1)))) (ai (qv 2) ae))))))),?_⟩
   dsimp only[st0];nofun;refine⟨a,ps,rss,w,rfl,ta,hpl,hcols,?_⟩;nofun;refine⟨_,rfl,by lia,by lia,ju (n:=if rss=[]then 0 else w) (λi ys σ H'=>Same H H'/\(∃qs:List Addr,ys=qs.map Ou/\qs.length=i/\LsAt H' qs ((bt rss w b).take i)/\∀q∈qs,H q=none)/\∃v,σ=[v,some (Ou a),some (Of b)]) (au ⋯) (λi ys σ H' h=>by obtain⟨_,⟨qs,rfl,e,_⟩,_⟩:=h;rw[DT,e]) ⟨Oi _,⟨[],rfl,rfl,LsAt.nil,λq h=>nomatch h⟩,none,rfl⟩ ?_ ?_⟩
   ·rintro c ys σ H1 hc ⟨s1,⟨qs,rfl,hql,hQ,hfr⟩,v,rfl⟩
    have hcw:c<w:=by lia
    rw[Hq];nofun;refine⟨a,rfl,⟨_,Od (s1 _ _ ta)⟩,bf (a:=a) (vs:=ps.map Ou) (λi ys σ H'=>H'=H1/\i<=rss.length/\ys=NV ((bD rss c).take i)/\∃v,σ=[v,some (Of c)]) (by rw[DT,hpl];exact au ⋯) (λi ys σ H' h=>by rw[h.2.2.1,aC,Ee,iw];lia) (λi ys σ H' h=>by rw[h.1];exact Od (s1 _ _ ta)) ⟨rfl,Ec _,rfl,none,rfl⟩ ?_ ?_⟩
    ·rintro i ys σ H' x hx ⟨rfl,_,rfl,v,rfl⟩
     have hil:=br hx;obtain⟨p,rfl,hp,_,hi⟩:=aH hx;have hir:i<rss.length:=by rw[<-hpl];exact hi
     have er:rss[i]? = some rss[i]:=by simp[hir]
     obtain⟨g1,g2⟩:=lN hG er hcw;nofun;refine mh (Oe (s1 _ _ (hR.2 i p _ hp er))) (gm rfl g1) ?_;refine Ol hil ⟨rfl,hir,?_,_,rfl⟩;rw[bU,D7,g2];rfl
    ·rintro ys σ H' ⟨rfl,_,rfl,v,rfl⟩ z hz
     rw[DW (by rw[iw,DT,hpl];exact DY _)];obtain⟨H2,e9,s2,s12,tz⟩:=nwD s1 hz (.lst (NV (bD rss c)));rw[e9];nofun;refine⟨z,bD rss c,b,rfl,⟨tz,trivial⟩,i8 hG hcw,by rw[iw];lia,hb,λl H3 hl s3 tl=>?_⟩;refine Ol hc ⟨s2.trans s3,⟨qs++[l],by rw[D0];rfl,by simp[hql],?_,λq hq=>?_⟩,_,rfl⟩
     ·rw[nZ hc]
      exact(hQ.same (s12.trans s3)).snoc tl
     ·rcases Et.mp hq with g|g
      ·exact hfr q g
      ·rw[D5.mp g];exact s2.free hl
   ·rintro ys σ H1 ⟨s1,⟨qs,rfl,hql,hQ,hfr⟩,v,rfl⟩ l hl
    rw[DW (by rw[dH];exact DY _)]at hQ;refine k l qs _ (s1.free hl) hfr (λhq=>?_) (s1.new hl) aj (hQ.same ((Oi H1).new hl));obtain⟨ns,_,e⟩:=hQ.some hq;rw[hl]at e;cases e
def xi:Sp:=λvs H Q _=>∃(a:Addr) (ps:List Addr) (tss:List (List Nat)),vs=[.ref a]/\((H a=some (.lst (ps.map Ou))/\LsAt H ps tss)\/(False/\RowsT H ps tss))/\tss.length<=200/\(∀r∈tss,r.length<=64)/\
 ∀(t l:Addr) H',H l=none->H t=none->Same H H'->H' t=some (.tup [.ref l,.int (mL tss:Nat)])->H' l=some (.lst (NV (dI tss)))->Q (.ref t) H'
theorem qU(tss:List (List Nat)):(dI tss).length<=tss.length:=by rw[<-fj];exact fk _
theorem gq (T:Tx K mg t):FnOk P t.wd K mg base CX0 2 (t.f 12) (t.d 12) ["tally"] xi:=by
 refine okT (N:=["tally","columns"]) (T.fn 12 rfl) (λH Q hr nd h=>?_)
 ·obtain⟨a,ps,tss,rfl,hR,hn,hr',k⟩:=h
  rcases hR with⟨ta,hR⟩|⟨ta,hR⟩
  ·have hpl:ps.length=tss.length:=hR.1
   refine⟨_,(af (wm (i:=1) (N:=["column","tally"]) (tgs:=["column"]) (frs:=["tally"]) (ix:=[0])  nd rfl (Fh rfl) ⟨rfl,by decide +kernel,rfl,by decide +kernel,rfl,rfl,⟨⟨rfl,rfl,_,rfl,rfl⟩,D3⟩,⟨rfl,D3⟩,rfl⟩ rfl (ff rfl T.bW (ai (aG cW (ag (aU (K:=K)) (by rfl) T.bA aO (ai (qv 0) ae)) ao) (ai (gg gh ao) (ai (gg gh ao) ae)))) (λ_ _ _ _=>(aE (i:=0))) (λ_ _ _ _=>(qv 0)) (λ_ _ _ _=>(bB (aI (dP T) hr (T.fn 5 rfl) (ai (aR (bx (K:=K)) (qv 1) (qv 0)) ae)))))
   (aq (ax (ba (ai (qv 1) (ai (ag (gP (K:=K) rfl) (by rfl) T.iL ir (ai (bj (N:=["column","tally"]) (tgs:=["column"]) (frs:=["tally"]) (ix:=[0]) ⟨rfl,by decide +kernel,rfl,by decide +kernel,rfl,rfl,⟨⟨rfl,rfl,_,rfl,rfl⟩,D3⟩,⟨rfl,D3⟩,rfl⟩ rfl (aS (K:=K) (qv 1)) (λ_ _ _ _=>(aE (i:=0))) (λ_ _ _ _=>(ag (gP (K:=K) rfl) (by rfl) T.iL ir (ai (aR (bx (K:=K)) (qv 1) (qv 0)) ae)))) ae)) ae)))))),?_⟩
   dsimp only[st0];nofun;refine aL (Od ta) ?_;rw[DT,hpl];nofun;refine⟨_,rfl,by lia,p7 (n:=tss.length) (λi ys σ H'=>Same H H'/\ys=NV (jz tss i)/\∃v,σ=[v,some (Ou a)]) (au ⋯) (λi ys σ H' h=>by rw[h.2.1,aC];exact fk i) ⟨Oi _,rfl,none,rfl⟩ (λi ys σ H' hi _=>hi) (λys σ H' _=>DY _) ?_ ?_⟩
   ·rintro i x ys σ H1o H1 hi ⟨s1,rfl,v,rfl⟩ ⟨rfl,rfl⟩
    have esc:=iV hi;have hcm:tss.length - 1 - i<tss.length:=by lia
    generalize tss.length - 1 - i=c at hcm esc;have hcp:c<ps.length:=by lia
    have eg:tss.getD c []=tss[c]:=by rw[DS,DR hcm];rfl
    rw[eg]at esc;nofun;refine bJ (Od (s1 _ _ ta)) (v:=Ou ps[c]) (bg (by rw[DX];simp[hcp])) ?_;refine⟨ps[c],tss[c],rfl,.inl (s1 _ _ (hR.2 c _ _ (by simp[hcp]) (by simp[hcm]))),hr' _ (D1 hcm),λH2 s2=>?_⟩;nofun;by_cases hp:cq tss[c]=true
    ·rw[if_pos hp]at esc ⊢
     nofun;refine Ol hi ⟨s1.trans s2,?_,_,rfl⟩;rw[bU,esc]
    ·rw[if_neg hp]at esc ⊢
     refine Ol hi ⟨s1.trans s2,?_,_,rfl⟩;rw[esc,E1]
   rintro ys σ H1 ⟨s1,rfl,v,rfl⟩ l hl;rw[fj];have hcl:=qU tss;have hln:H l=none:=s1.free hl;obtain⟨H2,e9,s2,tl⟩:=nwS s1 hl (.lst (NV (dI tss)));rw[e9];nofun;refine⟨l,rfl,⟨_,Od tl⟩,bf (a:=l) (vs:=NV (dI tss)) (λi ys σ H'=>H'=H2/\i<=(dI tss).length/\ys=NV (((dI tss).map λc=>(tss.getD c []).sum).take i)/\∃v,σ=[v,some (Ou a)]) (by rw[aC];exact au ⋯) (λi ys σ H' h=>by rw[h.2.2.1,aC,Ee,DT];lia) (λi ys σ H' h=>by rw[h.1];exact Od tl) ⟨rfl,Ec _,rfl,none,rfl⟩ ?_ ?_⟩
   ·rintro i ys σ H' x hx ⟨rfl,_,rfl,v,rfl⟩
    have hil:=br hx;obtain⟨c,rfl,hc,hcmm,hi⟩:=aH hx;have hcm:=kn hcmm;have hcp:c<ps.length:=by lia
    have eg:tss.getD c []=tss[c]:=by rw[DS,DR hcm];rfl
    nofun;refine bJ (Od (s2 _ _ ta)) (v:=Ou ps[c]) (bg (by rw[DX];simp[hcp])) ?_;nofun;refine fY (ns:=tss[c].map λx:Nat=>(x:Int)) (Od (by rw[<-iU];exact s2 _ _ (hR.2 c _ _ (by simp[hcp]) (by simp[hcm])))) ?_;rw[fm];refine Ol hil ⟨rfl,hi,?_,_,rfl⟩;rw[bU,D7,DX,hc];show _=NV (_++[(tss.getD c []).sum])
    rw[eg]
   rintro ys σ H' ⟨rfl,_,rfl,v,rfl⟩ z hz;rw[DW (by rw[aC,DT];exact DY _)];obtain⟨H3,e9,s3,e8,tz⟩:=nwD s2 hz (.lst (NV ((dI tss).map λc=>(tss.getD c []).sum)));rw[e9];have tl3:=e8 _ _ tl;nofun;refine fY (ns:=((dI tss).map λc=>(tss.getD c []).sum).map λx:Nat=>(x:Int)) (Od (by rw[<-iU];exact tz)) ?_;rw[fm];nofun;exact⟨aF (by simp),λt ht=>k t l _ hln (s3.free ht) (s3.new ht) aj (by rw[aB (ay tl3 ht)];exact tl3)⟩
  ·exact ta.elim
noncomputable def bgs(rss:List (List Nat))(c:Nat):List (List Int):=rss.map λr=>bH (r.take c)
def PairsAt(H:Hp)(as qs:List Addr)(zs:List (List Int×Int)):Prop:=as.length=zs.length/\qs.length=zs.length/\∀(i:Nat) a q z,as[i]? = some a->qs[i]? = some q->zs[i]? = some z->H a=some (.tup [.ref q,.int z.2])/\H q=some (.tup (z.1.map Of))
theorem PairsAt.same{H:Hp}{as:List Addr}{zs:List (List Int×Int)}(h:PairsAt H as qs zs)(s:Same H H'):PairsAt H' as qs zs:=⟨h.1,h.2.1,λi a q z e1 e2 e3=>⟨s _ _ (h.2.2 i a q z e1 e2 e3).1,s _ _ (h.2.2 i a q z e1 e2 e3).2⟩⟩
theorem tW{rss:List (List Nat)}(h:rss[i]? = some r):bgs (rss.take (i+1)) c=bgs (rss.take i) c++[bH (r.take c)]:=by
 unfold bgs;rw[D7,h,D0];rfl
theorem uY:(gc (bH r)).map kV=NV r:=by rw[lI,iU];rfl
def zL(K:DU):Sp:=λvs H Q _=>∃(a:Addr) (ps:List Addr) (rss:List (List Nat)) (c w:Nat),vs=[.ref a,.int c]/\H a=some (.lst (ps.map Ou))/\RowsT H ps rss/\(∀r∈rss,r.length=w)/\c<=w/\w<=200/\rss.length<=200/\
 ∀(d:Addr) (as qs:List Addr) (zs:List (List Int×Int)) H',H d=none->Same H H'->H' d=some (.lst (as.map Ou))->PairsAt H' as qs zs->Bgn (bgs rss c) zs->Q (.ref d) H'
theorem jR (T:Tx K mg t):FnOk P t.wd K mg base CX0 1 (t.f 4) (t.d 4) ["rows","column"] (zL K):=by
 refine okT (N:=["rows","column","often","row","beginning"]) (T.fn 4 rfl) (λH Q hr nd h=>?_)
 ·obtain⟨a,ps,rss,c,w,rfl,ta,hR,hw,hcw,hw1,hn,q⟩:=h
  have hpl:ps.length=rss.length:=hR.1;have fin:∀(o:Addr) (H1:Hp) (cs:List (List Int×Int)) (Q':VK),H o=none->Same H H1->H1 o=some (.dT (cs.map dTf))->Cn (bgs rss c) cs->cs.length<=rss.length->(∀v H2,Q v H2->Q' v H2)->∃(a:Addr) (ps:List (List Int×Int)),Ou o=.ref a/\H1 a=some (.dT (ps.map λq=>(gc q.1,Of q.2)))/\ps.length<1000/\
    ∀(d:Addr) (as qs:List Addr) (zs:List (List Int×Int)) H',H1 d=none->Same H1 H'->H' d=some (.lst (as.map Ou))->as.length=zs.length->qs.length=zs.length->zs.Perm ps->
     (∀(i:Nat) a q z,as[i]? = some a->qs[i]? = some q->zs[i]? = some z->H' a=some (.tup [.ref q,.int z.2])/\H' q=some (.tup (z.1.map Of)))->Q' (.ref d) H':=λo H1 cs Q' ho s1 to hC hl hQ=>
   ⟨o,cs,rfl,to,by lia,λd as qs zs H' hd s2 td l1 l2 hp hz=>hQ _ _ (q d as qs zs H' (s1.free hd) (s1.trans s2) td ⟨l1,l2,hz⟩ (hC.bgn hp))⟩
  ·refine⟨_,(af (aJ (i:=2) mY)
   (af (cf Em rfl (aS (K:=K) (qv 0)) (aE (i:=3)) (af (aJ (i:=4) (aT (bY (K:=K)) (by rfl) T.aW aP (ai (cG uM (qv 3) pI (bT (qv 1))) ae)))
   (aq (qy (nQ hr) (qv 2) (qv 4) (aG cI (jN (nQ hr) (qv 2) (qv 4) ao) ao)))))
   (aq (ax (ou rfl hr.units rfl T.gG (qv 2)))))),?_⟩
   dsimp only[st0];nofun;intro o ho;obtain⟨H1,e9,s1,(to:H1 o=some (.dT (([]:List (List Int×Int)).map dTf)))⟩:=nwR ho (.dT []);rw[e9];nofun;refine⟨a,rfl,⟨_,Od (s1 _ _ ta)⟩,cF (a:=a) (xs:=ps.map Ou) (λi σ H2=>Same H H2/\(∃cs:List (List Int×Int),H2 o=some (.dT (cs.map dTf))/\Cn (bgs (rss.take i) c) cs/\cs.length<=i)/\∃v x,σ=[some (Ou a),some (Of c),some (Ou o),v,x]) ⟨s1,⟨[],to,by rw[II];exact Cn.nil,DY _⟩,_,_,rfl⟩ (λi σ H2 _ h=>Od (h.1 _ _ ta)) ?_ ?_⟩
   ·rintro i x σ H2 hx ⟨s2,⟨cs,to2,hC,hcl⟩,v,x',rfl⟩
    obtain⟨p,rfl,hp,_,hi⟩:=aH hx;have hir:i<rss.length:=by lia
    have er:rss[i]? = some rss[i]:=by simp[hir]
    have tp:=s2 _ _ (hR.2 i p rss[i] hp er);have hrl:rss[i].length=w:=hw _ (D1 _);rw[tW er];generalize rss[i]=r at tp hrl;nofun;refine⟨_,rfl,p,_,rfl,tp,λb H3 s3 tb=>?_⟩;rw[pY _ _ ⋯]at tb;have to3:=s3 _ _ to2;nofun;refine⟨b,_,rfl,.inr ⟨Oe tb,?_⟩⟩;nofun;refine⟨o,rfl,.inr ⟨_,.inl to3⟩,?_⟩;nofun;obtain⟨m,cs',e1,e2,hC',hl'⟩:=hC.step (bH (r.take c));refine⟨_,DGet.t to3 (k:=gc (bH (r.take c))) (by rw[uY];exact tb),?_⟩;rw[e1];nofun;refine⟨o,_,rfl,DPut.t to3 (k:=gc (bH (r.take c))) (by rw[uY];exact tb) (by rw[DT];exact au ⋯),?_⟩;rw[e2];exact⟨(s2.trans s3).own ho,⟨cs',aj,hC',by lia⟩,_,_,rfl⟩
   ·rintro σ H2 ⟨s2,⟨cs,to2,hC,hcl⟩,v,x',rfl⟩
    rw[DT]at hC hcl;rw[DW ⋯]at hC;nofun;exact fin o H2 cs _ ho s2 to2 hC ⋯ λ_ _ z=>z
def PrAt(H:Hp)(qs:List Addr)(ws:List (Nat×Nat)):Prop:=qs.length=ws.length/\∀(i:Nat) q s,qs[i]? = some q->ws[i]? = some s->H q=some (.tup [.int (s.1:Nat),.int (s.2:Nat)])
theorem PrAt.same{H:Hp}{ws:List (Nat×Nat)}(h:PrAt H qs ws)(s:Same H H1):PrAt H1 qs ws:=⟨h.1,λi q t a b=>s _ _ (h.2 i q t a b)⟩
theorem PrAt.own{H:Hp}{ws:List (Nat×Nat)}(h:PrAt H qs ws)(hl:H l=some (.lst xs)):PrAt (upd H l (.lst ys)) qs ws:=⟨h.1,λi q t a b=>by
 have e:=h.2 i q t a b;rw[aB (iC e hl (by intro c;cases c))];exact e⟩
theorem PrAt.snoc{H:Hp}{ws:List (Nat×Nat)}{q:Addr}{s:Nat×Nat}(h:PrAt H qs ws)(e:H q=some (.tup [.int (s.1:Nat),.int (s.2:Nat)])):PrAt H (qs++[q]) (ws++[s]):=by
 refine⟨by simp[h.1],λi p y a b=>?_⟩;rcases aX a with⟨l,a⟩|⟨l,a⟩
 ·rcases aX b with⟨_,b⟩|⟨l',b⟩
  ·exact h.2 i p y a b
  ·have:=h.1;lia
 ·rcases aX b with⟨l',b⟩|⟨_,b⟩
  ·have:=h.1;lia
  ·rw[a,b];exact e
theorem PrAt.nil{H:Hp}:PrAt H [] []:=⟨rfl,λi q s h=>by simp at h⟩
theorem TrAt.nil{H:Hp}:TrAt H [] []:=⟨rfl,λi q s h=>by simp at h⟩
theorem gF{rss:List (List Nat)}(h:rss[i]? = some r):rss.getD i []=r:=by rw[DS,h];rfl
def zM:Sp:=λvs H Q _=>∃(a:Addr) (ps:List Addr) (rss:List (List Nat)),vs=[.ref a]/\H a=some (.lst (ps.map Ou))/\RowsT H ps rss/\rss.length<=200/\∀(l:Addr) H',H l=none->Same H H'->H' l=some (.lst (NV (b6 rss rss.length)))->Q (.ref l) H'
theorem qV (T:Tx K mg t):FnOk P t.wd K mg base CX0 1 (t.f 17) (t.d 17) ["rows"] zM:=by
 refine okT (N:=["rows","lengths","place","row"]) (T.fn 17 rfl) (λH Q hr nd h=>?_)
 ·obtain⟨a,ps,rss,rfl,ta,hR,hn,k⟩:=h
  have hpl:ps.length=rss.length:=hR.1;refine⟨_,(af (aJ (i:=1) (bo ae))
   (af (cf Em rfl (gW (K:=K) rfl T.cE (ai (qv 0) ae)) (bM (K:=K) (n:=2) rfl (av (aE (i:=2)) (av (aE (i:=3)) aY))) (aq (aV (Oj (kc (aD rA (qv 2) ao (az _)) (gN (aD (zb (K:=K) hr.units0) (aT (bY (K:=K)) (by rfl) T.aW aP (ai (aR (bx (K:=K)) (qv 0) (aG cW (qv 2) ao)) ae)) (aT (bY (K:=K)) (by rfl) T.aW aP (ai (qv 3) ae)) (az _))))) (aq (sX (K:=K) (qv 1) (gg gh ao) ao)) (aq (bN (bL (K:=K) (qv 1) (ai ao ae)))))))
   (aq (ax (qv 1))))),?_⟩
  dsimp only[st0];nofun;refine⟨aF (by simp),λl hl=>?_⟩;obtain⟨H1,e9,s1,(tl:H1 l=some (.lst (NV (b6 rss 0))))⟩:=nwR hl (.lst []);rw[e9];nofun;refine⟨a,rfl,⟨_,Od (s1 _ _ ta)⟩,eF (n:=rss.length) (λi σ H'=>Same H H'/\H' l=some (.lst (NV (b6 rss i)))/\∃v w,σ=[some (Ou a),some (Ou l),v,w]) ⟨s1,tl,none,none,rfl⟩ ?_ ?_ ?_ ?_⟩
  ·rintro i σ H2 hi ⟨s2,_⟩
   have hip:i<ps.length:=by lia
   exact⟨_,_,Od (s2 _ _ ta),by rw[DX,DR hip];rfl⟩
  ·rintro σ H2 ⟨s2,_⟩
   exact⟨_,Od (s2 _ _ ta),by rw[DT];exact hpl⟩
  ·rintro i x σ H2 H3 hi ⟨s2,t2,v,w,rfl⟩ ⟨q,x1,rfl,hq,rfl,hx1⟩
   have hx2:=hx1 _ (Od (s2 _ _ ta));obtain⟨p,rfl,hp,hpm,hip⟩:=aH hx2;refine bu aj ?_;dsimp only[E7];obtain⟨H3,e9,s3,e8,_⟩:=nwD s2 hq (.tup [Of (i:Nat),Ou p]);rw[e9];have t3:=e8 _ _ t2;have hlr:=ie rss i;nofun;refine a9 (λg=>?_) (λg=>?_)
   ·have hi0:0<i:=by lia
    have e1:(i:Int) - 1=((i - 1:Nat):Int):=by lia
    have hip1:i - 1<ps.length:=by lia
    have ei:rss[i]? = some rss[i]:=by simp[hi]
    have ei1:rss[i - 1]? = some (rss[i - 1]'⋯):=DR _;have tp:=s3 _ _ (hR.2 i p rss[i] hp ei);have tp1:=s3 _ _ (hR.2 (i - 1) ps[i - 1] _ (by simp[hip1]) ei1);nofun;rw[e1];refine bJ (Od (s3 _ _ ta)) (v:=Ou ps[i - 1]) (bg (by rw[DX,DR hip1];rfl)) ?_;nofun;refine⟨_,_,rfl,.inr ⟨Oe tp1,?_⟩⟩;nofun;refine⟨p,_,rfl,.inr ⟨Oe tp,?_⟩⟩;refine uJ (ns:=bH _) (ms:=bH _) (Oe (by rw[<-d7];exact tp1)) (Oe (by rw[<-d7];exact tp)) ?_;have ev:HT.dE (bH (rss[i - 1]'⋯)) (bH rss[i])=!brk rss i:=by
     rw[HT.ko];unfold brk lxt;rw[gF ei,gF ei1]
    rw[ev];nofun;cases hb:brk rss i with
    | false=>
     nofun;obtain⟨i',rfl⟩:∃i',i=i'+1:=⟨i - 1,by lia⟩
     obtain⟨ys,z,ez⟩:=lD (ic rss i');have er:b6 rss (i'+1+1)=ys++[z+1]:=by rw[b6,if_pos ⟨hi0,hb⟩,ez,ib]
     rw[ez]at t3;refine⟨l,_,Of (z:Nat),rfl,rfl,Od t3,by rw[<-bU,List.getLast?_concat],?_⟩;nofun;refine⟨_,_,rfl,rfl,?_⟩;refine gJ t3 (j:=ys.length) (by rw[aC,D8,EV];unfold ixN;rw[if_neg (by decide),if_pos ⋯];congr 1;lia) ?_;refine⟨s3.own hl,?_,_,_,rfl⟩;rw[aj,er];show some (HO.lst ((NV (ys++[z])).set ys.length (Of ((z+1:Nat):Int))))=_
     rw[mH];simp
    | true=>
     refine cH ?_;nofun;refine⟨bq t3,?_⟩;nofun;refine aZ t3 (by rw[aC];exact au ⋯) ?_;refine⟨s3.own hl,?_,_,_,rfl⟩;rw[aj,b6,if_neg (λz=>by rw[hb]at z;exact Bool.noConfusion z.2)];exact congrArg (λz=>some (HO.lst z)) (bU (b6 rss i) 1)
   ·have hi0:i=0:=by lia
    subst hi0;nofun;refine⟨bq t3,?_⟩;nofun;refine aZ t3 (by rw[aC];exact au ⋯) ?_;refine⟨s3.own hl,?_,_,_,rfl⟩;rw[aj];have e1:b6 rss (0+1)=[1]:=by show(if 0<0/\brk rss 0=false then xK (b6 rss 0)else b6 rss 0++[1])=[1];rw[if_neg ⋯];rfl
    rw[e1];rfl
  ·rintro σ H2 ⟨s2,t2,v,w,rfl⟩
   nofun;exact k l H2 hl s2 t2
def xj:Sp:=λvs H Q _=>∃(a:Addr) (ls:List Nat),vs=[.ref a]/\(H a=some (.lst (NV ls))\/False)/\ls.length<=200/\
 ∀(t st bh:Addr) (qs:List Addr) H',H st=none->H bh=none->Same H H'->H' t=some (.tup [.ref st,.ref bh])->H' st=some (.lst (qs.map Ou))->TrAt H' qs (rnd 0 ls).1->H' bh=some (.lst (NV (rnd 0 ls).2))->Q (.ref t) H'
theorem qW{ls:List Nat}(h:2*i<ls.length):(∃a b r,ls.drop (2*i)=a::b::r/\ls.drop (2*(i+1))=r)\/∃a,ls.drop (2*i)=[a]/\ls.drop (2*(i+1))=[]:=by
 have hd:ls.drop (2*(i+1))=(ls.drop (2*i)).drop 2:=by rw[F4];congr 1
 have hl:(ls.drop (2*i)).length=ls.length - 2*i:=EO ..;rw[hd];generalize ls.drop (2*i)=rem at hl
 match rem,hl with
 | [],hl=>simp at hl;lia
 | [a],_=>exact .inr ⟨a,rfl,rfl⟩
 | a::b::r,_=>exact .inl ⟨a,b,r,rfl,rfl⟩
theorem gr (T:Tx K mg t):FnOk P t.wd K mg base CX0 1 (t.f 20) (t.d 20) ["lengths"] xj:=by
 refine okT (N:=["lengths","steps","behind","first","at","both","last"]) (T.fn 20 rfl) (λH Q hr nd h=>?_)
 ·obtain⟨a,ls,rfl,hta,hn,k⟩:=h
  rcases hta with ta|ta
  ·refine⟨_,(af (aJ (i:=1) (bo ae))
   (af (aJ (i:=2) (bo ae))
   (af (aJ (i:=3) ao)
   (af (cf Em rfl (qj rfl T.bW (ai ao (ai (ag (aU (K:=K)) (by rfl) T.bA aO (ai (qv 0) ae)) (ai ao ae)))) (aE (i:=4)) (af (aJ (i:=5) (cG (ke (K:=K)) (qv 0) (bT (qv 4)) (bT (aG cI (qv 4) ao))))
   (af (aJ (i:=6) (aG cI (qv 3) (ag (gP (K:=K) rfl) (by rfl) T.iL ir (ai (qv 5) ae))))
   (af (aV (aD dD (ag (aU (K:=K)) (by rfl) T.bA aO (ai (qv 5) ae)) ao (az _)) (aq (bN (bL (K:=K) (qv 1) (ai (ba (ai (qv 3) (ai (aG cI (qv 3) (aR (bx (K:=K)) (qv 5) ao)) (ai (qv 6) ae)))) ae)))) aK)
   (af (bN (bL (K:=K) (qv 2) (ai (aG cW (qv 6) (qv 3)) ae)))
   (aq (aJ (i:=3) (qv 6))))))))
   (aq (ax (ba (ai (qv 1) (ai (qv 2) ae))))))))),?_⟩
   dsimp only[st0];nofun;refine⟨aF (by simp),λst hst=>?_⟩;obtain⟨H1,e9,s1,(ts1:H1 st=some (.lst (([]:List Addr).map Ou)))⟩:=nwR hst (.lst []);rw[e9];nofun;refine⟨aF (by simp),λbh hbh=>?_⟩;have hbn:H bh=none:=s1.free hbh;have hsb:st≠bh:=ay ts1 hbh;obtain⟨H2,e9,s2,e8,(tb2:H2 bh=some (.lst (NV [])))⟩:=nwD s1 hbh (.lst []);rw[e9];have ts2:=e8 _ _ ts1;nofun;refine aL (Od (s2 _ _ ta)) ?_;rw[aC];nofun;refine⟨ls.length,rfl,by lia,eF (n:=(ls.length+1) / 2) (λi σ H'=>Same H H'/\(∃(ss:List cA) (qs:List Addr) (bs:List Nat) (f:Nat),H' st=some (.lst (qs.map Ou))/\TrAt H' qs ss/\H' bh=some (.lst (NV bs))/\(rnd 0 ls).1=ss++(rnd f (ls.drop (2*i))).1/\(rnd 0 ls).2=bs++(rnd f (ls.drop (2*i))).2/\∃v4 v5 v6,σ=[some (Ou a),some (Ou st),some (Ou bh),some (Of (f:Nat)),v4,v5,v6])) ⟨s2,[],[],[],0,ts2,TrAt.nil,tb2,rfl,rfl,_,_,_,rfl⟩ (λi σ H' hi _=>hi) (λσ H' _=>DY _) ?_ ?_⟩
   ·rintro i x σ H3o H3 hi ⟨s3,ss,qs,bs,f,ts3,T3,tb3,e1,e2,v4,v5,v6,rfl⟩ ⟨rfl,rfl⟩
    have h2i:2*i<ls.length:=by lia
    have hlen:=hZ 0 ls;have hsl:ss.length<=ls.length:=by have:=congrArg G7 e1;rw[D8]at this;lia
    have hbl:bs.length<=ls.length:=by have:=congrArg G7 e2;rw[D8]at this;lia
    have hql:qs.length=ss.length:=T3.1;have ek:((2*i:Nat):Int)+2=((2*i+2:Nat):Int):=by lia
    nofun;refine⟨_,rfl,?_⟩;nofun;rw[ek];refine⟨_,rfl,?_⟩;refine wX (s3 _ _ ta) λz H4 s4 tz=>?_
    rw[wu ls h2i]at tz;have ts4:=s4 _ _ ts3;have T4:=T3.same s4;have tb4:=s4 _ _ tb3;rcases qW h2i with⟨p,q,r,er,er'⟩|⟨p,er,er'⟩
    ·rw[er,fR]at e1 e2
     rw[er]at tz;have etk:(p::q::r).take 2=[p,q]:=rfl;rw[etk]at tz;nofun;refine fY (ns:=[p,q].map λx:Nat=>(x:Int)) (Od (by rw[<-iU];exact tz)) ?_;rw[fm];have es:(f:Int)+(([p,q].sum:Nat):Int)=((f+p+q:Nat):Int):=by simp;lia
     nofun;rw[es];nofun;refine aL (Od tz) ?_;nofun;refine cN rfl ?_;nofun;refine⟨bq ts4,?_⟩;nofun;have ep:(f:Int)+((p:Nat):Int)=((f+p:Nat):Int):=by lia
     rw[ep];refine⟨aF (by simp),λu hu=>?_⟩;obtain⟨H5,e9,s5,tu⟩:=nwR hu (.tup [Of (f:Nat),Of ((f+p:Nat):Int),Of ((f+p+q:Nat):Int)]);rw[e9];nofun;refine aZ (s5 _ _ ts4) (by rw[DT,hql];exact au ⋯) ?_;have s6:=(s3.trans (s4.trans s5)).own (o:=.lst (qs.map Ou++[Ou u])) hst;have ts6:(upd H5 st (.lst (qs.map Ou++[Ou u]))) st=some (.lst ((qs++[u]).map Ou)):=by rw[aj,D0];rfl
     have tb6:(upd H5 st (.lst (qs.map Ou++[Ou u]))) bh=some (.lst (NV bs)):=by rw[aB (E5 hsb)];exact s5 _ _ tb4
     have T6:TrAt (upd H5 st (.lst (qs.map Ou++[Ou u]))) (qs++[u]) (ss++[(f,f+p,f+p+q)]):=((T4.same s5).snoc tu).own (s5 _ _ ts4);generalize upd H5 st (.lst (qs.map Ou++[Ou u]))=H6 at s6 ts6 tb6 T6;nofun;refine⟨bq tb6,?_⟩;have ed:((f+p+q:Nat):Int) - ((f:Nat):Int)=((p+q:Nat):Int):=by lia
     nofun;rw[ed];refine aZ tb6 (by rw[aC];exact au ⋯) ?_;rw[bU];nofun;refine⟨s6.own hbn,ss++[(f,f+p,f+p+q)],qs++[u],bs++[p+q],f+p+q,by rw[aB hsb];exact ts6,T6.own tb6,aj,?_,?_,_,_,_,rfl⟩
     ·rw[er',EA];exact e1
     ·rw[er',EA];exact e2
    ·rw[er,fS]at e1 e2
     rw[er]at tz;have etk:[p].take 2=[p]:=rfl;rw[etk]at tz;nofun;refine fY (ns:=[p].map λx:Nat=>(x:Int)) (Od (by rw[<-iU];exact tz)) ?_;rw[fm];have es:(f:Int)+(([p].sum:Nat):Int)=((f+p:Nat):Int):=by simp
     nofun;rw[es];nofun;refine aL (Od tz) ?_;nofun;refine bX (λz=>absurd (Of.inj z) (by show ¬(((1:Nat):Int)=2);decide)) ?_;nofun;refine⟨bq tb4,?_⟩;have ed:((f+p:Nat):Int) - ((f:Nat):Int)=((p:Nat):Int):=by lia
     nofun;rw[ed];refine aZ tb4 (by rw[aC];exact au ⋯) ?_;rw[bU];nofun;refine⟨(s3.trans s4).own hbn,ss,qs,bs++[p],f+p,by rw[aB hsb];exact ts4,T4.own tb4,aj,?_,?_,_,_,_,rfl⟩
     ·rw[er',dM];exact e1
     ·rw[er',dM,E1];exact e2
   ·rintro σ H3 ⟨s3,ss,qs,bs,f,ts3,T3,tb3,e1,e2,v4,v5,v6,rfl⟩
    have ed:ls.drop (2*((ls.length+1) / 2))=[]:=GN ⋯;rw[ed,dM,E1]at e1 e2;rw[<-e1]at T3;rw[<-e2]at tb3;nofun;refine⟨aF (by simp),λt ht=>?_⟩;exact k t st bh qs _ hst hbn (s3.new ht) aj (by rw[aB (ay ts3 ht)];exact ts3) (T3.same ((Oi H3).new ht)) (by rw[aB (ay tb3 ht)];exact tb3)
  ·exact ta.elim
noncomputable def uZ(ss:List cA):Int:=(ss.map λs=>((s.2.2:Nat):Int) - ((s.1:Nat):Int)).sum
def tX:Sp:=λvs H Q _=>∃(a:Addr) (ls:List Nat),vs=[.ref a]/\(H a=some (.lst (NV ls))\/False)/\ls.length<=200/\
 ∀(t st:Addr) (qs:List Addr) H',H st=none->Same H H'->H' t=some (.tup [.ref st,.int (uZ (eL ls))])->H' st=some (.lst (qs.map Ou))->TrAt H' qs (eL ls)->Q (.ref t) H'
theorem dC (T:Tx K mg t):FnOk P t.wd K mg base CX0 2 (t.f 21) (t.d 21) ["lengths"] tX:=by
 refine okT (N:=["lengths","steps","stretches","done"]) (T.fn 21 rfl) (λH Q hr nd h=>?_)
 ·obtain⟨a,ls,rfl,hta,hn,k⟩:=h
  refine⟨_,(af (aJ (i:=1) (bo ae))
   (af (aJ (i:=2) (qv 0))
   (af (cX Em (aD rA (ag (aU (K:=K)) (by rfl) T.bA aO (ai (qv 2) ae)) ao (az _)) (af (da (aI (gr T) hr (T.fn 20 rfl) (ai (qv 2) ae)) (bM (K:=K) (n:=2) rfl (av (aE (i:=3)) (av (aE (i:=2)) aY))))
   (aq (bN (gX (K:=K) (qv 1) (ai (qv 3) ae))))))
   (aq (ax (ba (ai (qv 1) (ai (ag (gP (K:=K) rfl) (by rfl) T.iL ir (ai (bj (N:=["first","middle","last"]) (tgs:=["first","middle","last"]) (frs:=[]) (ix:=[]) ⟨rfl,by decide +kernel,rfl,by decide +kernel,rfl,rfl,D3,D3,rfl⟩ rfl (aS (K:=K) (qv 1)) (λ_ _ _ _=>(bM (K:=K) (n:=3) rfl (av (aE (i:=0)) (av (aE (i:=1)) (av (aE (i:=2)) aY))))) (λ_ _ _ _=>(aG cW (qv 2) (qv 0)))) ae)) ae)))))))),?_⟩
  dsimp only[st0];nofun;refine⟨aF (by simp),λst hst=>?_⟩;obtain⟨H1,e9,s1,(ts1:H1 st=some (.lst (([]:List Addr).map Ou)))⟩:=nwR hst (.lst []);rw[e9];nofun;refine⟨λm σ H'=>∃(xs:List Nat) (sp:Addr) (ss:List cA) (qs:List Addr),m=xs.length/\Same H H'/\(H' sp=some (.lst (NV xs))\/False)/\sp≠st/\H' st=some (.lst (qs.map Ou))/\TrAt H' qs ss/\eL ls=ss++eL xs/\ss.length+xs.length<=200/\∃v3,σ=[some (Ou a),some (Ou st),some (Ou sp),v3],⟨_,ls,a,[],[],rfl,s1,.inl (s1 _ _ (hta.elim id FW)),hta.elim (λh=>ay h hst) (λh=>h.elim),ts1,TrAt.nil,rfl,by simpa using hn,_,rfl⟩,?_⟩;rintro m σ H2 ⟨xs,sp,ss,qs,rfl,s2,hsp,hne,ts2,T2,eA,hl,v3,rfl⟩;nofun;refine qT (hsp.imp id FW) ?_;rw[aC];nofun;refine a9 (λg=>?_) (λg=>?_)
  ·refine⟨_,λ_ _ z=>z,?_⟩
   have hg:1<xs.length:=by lia
   obtain⟨r1,r2⟩:=hZ 0 xs;nofun;refine⟨sp,xs,rfl,hsp,by lia,λt d bh us H3 hd hbh s3 tt td T3 tb=>?_⟩;refine bu tt ?_;dsimp only[E7];have ts3:=s3 _ _ ts2;have hul:us.length=(rnd 0 xs).1.length:=T3.1;have hql:qs.length=ss.length:=T2.1;nofun;refine⟨bq ts3,?_⟩;nofun;refine g9 ts3 td (aF (by rw[DT,DT];lia)) ?_;rw[<-D0];have hbs:bh≠st:=λe=>by rw[e,ts2]at hbh;cases hbh
   rw[ia hg]at eA;refine⟨(rnd 0 xs).2.length,by lia,(rnd 0 xs).2,bh,ss++(rnd 0 xs).1,qs++us,rfl,(s2.trans s3).own hst,.inl (by rw[aB hbs];exact tb),hbs,aj,((T2.same s3).app T3).own ts3,by rw[EA];exact eA,by rw[D8];lia,_,rfl⟩
  ·have hg:¬ 1<xs.length:=by lia
   rw[fq hg,E1]at eA;rw[<-eA]at T2;have hql:qs.length=(eL ls).length:=T2.1;have hal:(eL ls).length<=200:=by rw[eA];lia
   nofun;refine⟨st,rfl,⟨_,Od ts2⟩,bf (a:=st) (vs:=qs.map Ou) (λi ys σ H'=>H'=H2/\i<=qs.length/\ys=(((eL ls).map λs=>((s.2.2:Nat):Int) - ((s.1:Nat):Int)).take i).map Of/\∃v w u,σ=[v,w,u]) (by rw[DT];exact au ⋯) (λi ys σ H' h=>by rw[h.2.2.1,DT,Ee,DT];lia) (λi ys σ H' h=>by rw[h.1];exact Od ts2) ⟨rfl,Ec _,rfl,none,none,none,rfl⟩ ?_ ?_⟩
   ·rintro i ys σ H' x hx ⟨rfl,_,rfl,v,w,u,rfl⟩
    have hil:=br hx;obtain⟨q,rfl,hq,_,hi⟩:=aH hx;have hia:i<(eL ls).length:=by lia
    have tq:=T2.2 i q _ hq (DR hia);refine dX tq ?_;dsimp only[E7];nofun;refine Ol hil ⟨rfl,hi,?_,_,_,_,rfl⟩;rw[D7,DX,DR hia,D0];rfl
   rintro ys σ H' ⟨e',_,rfl,v,w,u,rfl⟩ z hz;subst e';rw[DW (by rw[DT,DT];lia)];obtain⟨H3,e9,s3,s23,tz⟩:=nwD s2 hz (.lst (((eL ls).map λs=>((s.2.2:Nat):Int) - ((s.1:Nat):Int)).map Of));rw[e9];nofun;refine fY (Od tz) ?_;nofun;refine⟨aF (by simp),λt ht=>?_⟩;have ts3:=s23 _ _ ts2;exact k t st qs _ hst (s3.new ht) aj (by rw[aB (ay ts3 ht)];exact ts3) ((T2.same s23).same ((Oi H3).new ht))
def qX:Sp:=λvs H Q _=>∃(n b m:Nat),vs=[.int n,.int b,.int m]/\2<=b/\b<=64/\m<=900/\n<b ^ m/\∀p H',H p=none->Same H H'->H' p=some (.tup ((dg n b m).map Of))->Q (.ref p) H'
theorem ja (T:Tx K mg t):FnOk P t.wd K mg base CX0 1 (t.f 24) (t.d 24) ["n","base","many"] qX:=by
 refine okT (N:=["n","base","many","lowest_first","rest","turn"]) (T.fn 24 rfl) (λH Q hr nd h=>?_)
 ·obtain⟨n,b,m,rfl,hb,hb2,hm,hn,q⟩:=h
  refine⟨_,(af (aJ (i:=3) (bo ae))
   (af (aJ (i:=4) (qv 0))
   (af (cf Em rfl (cR rfl T.bW (ai (qv 2) ae)) (aE (i:=5)) (af (bN (bL (K:=K) (qv 3) (ai (aG fN (qv 4) (qv 1)) ae)))
   (aq (f9 (i:=4) nd rfl (Fh rfl) (qv 1) pJ))))
   (af (aV (aD rA (qv 4) ao (az _)) (aq cm) aK)
   (aq (ax (aT (bY (K:=K)) (by rfl) T.aW aP (ai (uE (K:=K) (qv 3)) ae)))))))),?_⟩
  dsimp only[st0];nofun;refine⟨aF (by simp),λl hl=>?_⟩;nofun;refine⟨m,rfl,by lia,by lia,eT (λi σ H'=>Same H H'/\H' l=some (.lst ((DZ i).map λj=>Of ((n / b ^ j % b:Nat):Int)))/\∃v,σ=[some (Of n),some (Of b),some (Of m),some (Ou l),some (Of ((n / b ^ i:Nat):Int)),v]) ⟨(Oi H).new hl,aj,none,by simp⟩ ?_ ?_⟩
  ·rintro i σ H' hi ⟨sm,hL,v,rfl⟩
   nofun;refine⟨bq hL,?_⟩;nofun;refine aZ hL (by rw[DT,Ff];exact au ⋯) ?_;nofun;have e1:((n / b ^ i:Nat):Int) / (b:Int)=((n / b ^ (i+1):Nat):Int):=by rw[<-dvp,FF (n / b ^ i)]
   rw[e1];refine⟨sm.own hl,?_,_,rfl⟩;rw[aj,J0,D0,Ez,Ik,JH (n / b ^ i)]
  ·rintro σ H' ⟨sm,hL,v,rfl⟩
   have hz:n / b ^ (m:Int).toNat=0:=Nat.div_eq_of_lt hn;nofun;refine bX (by rw[hz];decide) ?_;nofun;refine⟨l,_,rfl,Od hL,λr hr0=>?_⟩;nofun;refine df (Od aj) λp hp=>?_
   refine q p _ ((sm.new hr0).free hp) ((sm.new hr0).new hp) ?_;rw[aj];have:=yU n b m;rw[<-this];rfl
def Cd:Sp:=λvs H Q _=>∃(m n:Nat),vs=[.int m,.int n]/\Q (.int ((FX m n:Nat):Int)) H
theorem cD (T:Tx K mg t):FnOk P t.wd K mg base CX0 1 (t.f 25) (t.d 25) ["one","other"] Cd:=by
 refine okT (N:=["one","other","greater","less"]) (T.fn 25 rfl) (λH Q hr nd h=>?_)
 ·obtain⟨m,n,rfl,q⟩:=h
  refine⟨_,(af (mj rfl nd (i:=2) (j:=3) rfl rfl (by decide) rfl rfl (ai (qv 0) (ai (qv 1) ae)))
   (af (cX Em (aD rA (qv 3) ao (az _)) (aq (mj rfl nd (i:=2) (j:=3) rfl rfl (by decide) rfl rfl (ai (qv 3) (ai (aG fN (qv 2) (qv 3)) ae)))))
   (aq (ax (qv 2))))),?_⟩
  dsimp only[st0];nofun;refine⟨λc σ H'=>H'=H/\∃(g l:Nat),σ=[some (Of m),some (Of n),some (Of g),some (Of l)]/\FX g l=FX m n/\l=c,⟨n,rfl,m,n,rfl,rfl,rfl⟩,?_⟩;rintro c σ H' ⟨rfl,g,l,rfl,e,rfl⟩;nofun;refine a9 (λh1=>?_) (λh1=>?_)
  ·refine⟨_,λ_ _ z=>z,?_⟩
   nofun;have hl:0<l:=by lia
   rw[<-JH];exact⟨g % l,Jr _ hl,rfl,l,g % l,rfl,by rw[mC hl,e],rfl⟩
  ·have hl:l=0:=by lia
   subst hl;rw[Lh]at e;nofun;rw[e];exact q
def xk:Sp:=λvs H Q _=>∃(n b:Nat),vs=[.int n,.int b]/\2<=b/\b<=64/\n<2 ^ 199/\∀m:Nat,n<b ^ m->(0<m->b ^ (m - 1)<=n)->m<201->Q (.int m) H
theorem dQ (T:Tx K mg t):FnOk P t.wd K mg base CX0 1 (t.f 23) (t.d 23) ["n","base"] xk:=by
 refine okT (N:=["n","base","many","rest"]) (T.fn 23 rfl) (λH Q hr nd h=>?_)
 ·obtain⟨n,b,rfl,hb,hb2,hn,q⟩:=h
  refine⟨_,(af (aJ (i:=2) ao)
   (af (aJ (i:=3) (qv 0))
   (af (cX Em (aD rA (qv 3) ao (az _)) (af (f9 (i:=3) nd rfl (Fh rfl) (qv 1) pJ)
   (aq (f9 (i:=2) nd rfl (Fh rfl) ao iR))))
   (aq (ax (qv 2)))))),?_⟩
  dsimp only[st0];nofun;refine⟨λm σ H'=>H'=H/\∃(pl:Nat),σ=[some (Of n),some (Of b),some (Of pl),some (Of ((n / b ^ pl:Nat):Int))]/\(0<pl->b ^ (pl - 1)<=n)/\2 ^ pl<=2*n+1/\n / b ^ pl=m,⟨n,rfl,0,by simp,by lia,by lia,by simp⟩,?_⟩;rintro m σ H' ⟨rfl,pl,rfl,h1,h2,rfl⟩;nofun;refine a9 (λh3=>?_) (λh3=>?_)
  ·refine⟨_,λ_ _ z=>z,?_⟩
   nofun;have hpos:0<n / b ^ pl:=Mi.mp h3;have e1:((n / b ^ pl:Nat):Int) / (b:Int)=((n / b ^ (pl+1):Nat):Int):=by rw[<-dvp,FF (n / b ^ pl)]
   have e2:(pl:Int)+1=((pl+1:Nat):Int):=by lia
   rw[e1,e2];have hlt:n / b ^ (pl+1)<n / b ^ pl:=by
    rw[<-dvp];exact Nat.div_lt_self hpos ⋯
   exact⟨n / b ^ (pl+1),hlt,rfl,pl+1,rfl,λ_=>by rw[IT];exact(L7.mp hpos).2,si hb hpos,rfl⟩
  ·have hz:n / b ^ pl=0:=Nat.eq_zero_of_not_pos λh=>h3 (Mi.mpr h)
   nofun;refine q pl ?_ h1 ?_
   ·rcases Nat.div_eq_zero_iff.mp hz with h|h
    ·exact absurd h (EU (Ke ⋯))
    ·exact h
   ·have h4:2 ^ pl<2 ^ 201:=E4 h2 ⋯
    exact(Nat.pow_lt_pow_iff_right (by decide)).mp h4
def Few(ns:List Int):Prop:=ns.length<=200/\∀x∈ns,-(2 ^ 190)<x/\x<2 ^ 190
def zN(K:DU):Sp:=λvs H Q _=>∃(a:Addr) (ns:List Int) (b:Nat),vs=[.ref a,.int b]/\(SqL K H a (ns.map Of)\/SqT K H a (ns.map Of))/\2<=b/\b<=64/\Few ns/\
 ∀(l:Addr) (ps:List Addr) (zs:List Nat) (m:Nat) H',H l=none->Same H H'->H' l=some (.lst (ps.map Ou))->RowsAt H' ps b m zs->Spelt ns b zs m->Q (.ref l) H'
theorem eC (T:Tx K mg t):FnOk P t.wd K mg base CX0 2 (t.f 28) (t.d 28) ["numbers","base"] (zN K):=by
 refine okT (N:=["numbers","base","least","columns"]) (T.fn 28 rfl) (λH Q hr nd h=>?_)
 ·obtain⟨a,ns,b,rfl,hs,hb,hb2,⟨hlen,hbd⟩,q⟩:=h
  rcases hs with hs|hs
  ·refine⟨_,(af (aV (fZ (gv (K:=K) (qv 0))) (aq (ax (bo ae))) aK)
   (af (aJ (i:=2) (ag (pN (K:=K) rfl) (by rfl) T.lX ng (ai (qv 0) ae)))
   (af (aJ (i:=3) (aI (dQ T) hr (T.fn 23 rfl) (ai (aG cW (ag (pO (K:=K) rfl) (by rfl) T.lW uV (ai (qv 0) ae)) (qv 2)) (ai (qv 1) ae))))
   (aq (ax (bj (N:=["number","base","least","columns"]) (tgs:=["number"]) (frs:=["base","least","columns"]) (ix:=[1,2,3]) ⟨rfl,by decide +kernel,rfl,by decide +kernel,rfl,rfl,⟨⟨rfl,rfl,_,rfl,rfl⟩,⟨rfl,rfl,_,rfl,rfl⟩,⟨rfl,rfl,_,rfl,rfl⟩,D3⟩,⟨rfl,rfl,rfl,D3⟩,rfl⟩ rfl (aS (K:=K) (qv 0)) (λ_ _ _ _=>(aE (i:=0))) (λ_ _ _ _=>(aI (ja T) hr (T.fn 24 rfl) (ai (aG cW (qv 0) (qv 2)) (ai (qv 1) (ai (qv 3) ae))))))))))),?_⟩
   dsimp only[st0];nofun;refine⟨_,BK hs,?_⟩;by_cases h0:ns=[]
   ·subst h0
    nofun;exact⟨aF (by simp),λl hl=>q l [] [] 0 _ hl ((Oi H).new hl) (by rw[aj];rfl) ⟨rfl,λi p z e=>by simp at e⟩ (.inl ⟨rfl,rfl,rfl⟩)⟩
   ·have he:(ns.map Of).isEmpty=false:=by cases ns with|nil=>exact absurd rfl h0|cons x r=>rfl
    rw[he];refine cH ?_;nofun;refine pP (.inl hs) h0 λlo lo1 lo2=>?_
    nofun;refine pQ (.inl hs) h0 λhi hi1 hi2=>?_
    nofun;have hd:hi - lo=(((hi - lo).toNat:Nat):Int):=by have:=lo2 hi hi1;lia
    rw[hd];refine⟨(hi - lo).toNat,b,rfl,hb,hb2,by have:=hbd hi hi1;have:=hbd lo lo1;lia,λm m1 m2 m3=>?_⟩;nofun;refine⟨a,rfl,⟨_,hs⟩,bf (a:=a) (vs:=ns.map Of) (λi ys σ H'=>Same H H'/\(∃ps:List Addr,ys=ps.map Ou/\ps.length=i/\i<=ns.length/\RowsAt H' ps b m ((ns.map λx=>(x - lo).toNat).take i))/\∃v,σ=[v,some (Of b),some (Of lo),some (Of m)]) (by rw[DT];exact au ⋯) (λi ys σ H' h=>by obtain⟨_,⟨ps,rfl,e,_⟩,_⟩:=h;rw[DT,e]) (λi ys σ H' h=>h.1.seq hs) ⟨Oi _,⟨[],rfl,rfl,Ec _,rfl,λi p z h=>by simp at h⟩,none,rfl⟩ ?_ ?_⟩
    ·rintro i ys σ H' x hx ⟨sm,⟨ps,rfl,hpl,_,hR⟩,v,rfl⟩
     obtain⟨z,rfl,hz,hzm,hi'⟩:=aH hx;nofun;have h1:=lo2 z hzm;have h2:=hi2 z hzm;have ez:z - lo=(((z - lo).toNat:Nat):Int):=by lia
     rw[ez];refine⟨(z - lo).toNat,b,m,rfl,hb,hb2,by lia,by lia,λp H2 hp sm2 t2=>?_⟩;refine Ol (by rw[DT];exact hi') ⟨sm.trans sm2,⟨ps++[p],by rw[D0];rfl,by simp[hpl],hi',?_⟩,_,rfl⟩;have et:(ns.map λx=>(x - lo).toNat).take (i+1)=(ns.map λx=>(x - lo).toNat).take i++[(z - lo).toNat]:=by rw[D7,DX,hz];rfl
     rw[et];exact(hR.same sm2).snoc t2
    ·rintro ys σ H' ⟨sm,⟨ps,rfl,hpl,_,hR⟩,v,rfl⟩ l hl
     rw[DW (by simp)]at hR;exact q l ps _ m _ (sm.free hl) (sm.new hl) aj (hR.same ((Oi _).new hl)) (.inr ⟨lo,hi,lo1,hi1,λx hx=>⟨lo2 x hx,hi2 x hx⟩,rfl,m1,m2,m3⟩)
  ·refine⟨_,(af (aV (fZ (gv (K:=K) (qv 0))) (aq (ax (bo ae))) aK)
   (af (aJ (i:=2) (ag (pN (K:=K) rfl) (by rfl) T.lX ng (ai (qv 0) ae)))
   (af (aJ (i:=3) (aI (dQ T) hr (T.fn 23 rfl) (ai (aG cW (ag (pO (K:=K) rfl) (by rfl) T.lW uV (ai (qv 0) ae)) (qv 2)) (ai (qv 1) ae))))
   (aq (ax (bj (N:=["number","base","least","columns"]) (tgs:=["number"]) (frs:=["base","least","columns"]) (ix:=[1,2,3]) ⟨rfl,by decide +kernel,rfl,by decide +kernel,rfl,rfl,⟨⟨rfl,rfl,_,rfl,rfl⟩,⟨rfl,rfl,_,rfl,rfl⟩,⟨rfl,rfl,_,rfl,rfl⟩,D3⟩,⟨rfl,rfl,rfl,D3⟩,rfl⟩ rfl (iQ (K:=K) (qv 0)) (λ_ _ _ _=>(aE (i:=0))) (λ_ _ _ _=>(aI (ja T) hr (T.fn 24 rfl) (ai (aG cW (qv 0) (qv 2)) (ai (qv 1) (ai (qv 3) ae))))))))))),?_⟩
   dsimp only[st0];nofun;refine⟨_,Dy hs,?_⟩;by_cases h0:ns=[]
   ·subst h0
    nofun;exact⟨aF (by simp),λl hl=>q l [] [] 0 _ hl ((Oi H).new hl) (by rw[aj];rfl) ⟨rfl,λi p z e=>by simp at e⟩ (.inl ⟨rfl,rfl,rfl⟩)⟩
   ·have he:(ns.map Of).isEmpty=false:=by cases ns with|nil=>exact absurd rfl h0|cons x r=>rfl
    rw[he];refine cH ?_;nofun;refine pP (.inr hs) h0 λlo lo1 lo2=>?_
    nofun;refine pQ (.inr hs) h0 λhi hi1 hi2=>?_
    nofun;have hd:hi - lo=(((hi - lo).toNat:Nat):Int):=by have:=lo2 hi hi1;lia
    rw[hd];refine⟨(hi - lo).toNat,b,rfl,hb,hb2,by have:=hbd hi hi1;have:=hbd lo lo1;lia,λm m1 m2 m3=>?_⟩;nofun;refine⟨a,rfl,⟨_,hs⟩,fc (a:=a) (vs:=ns.map Of) (λi ys σ H'=>Same H H'/\(∃ps:List Addr,ys=ps.map Ou/\ps.length=i/\i<=ns.length/\RowsAt H' ps b m ((ns.map λx=>(x - lo).toNat).take i))/\∃v,σ=[v,some (Of b),some (Of lo),some (Of m)]) (by rw[DT];exact au ⋯) (λi ys σ H' h=>by obtain⟨_,⟨ps,rfl,e,_⟩,_⟩:=h;rw[DT,e]) (λi ys σ H' h=>h.1.tup hs) ⟨Oi _,⟨[],rfl,rfl,Ec _,rfl,λi p z h=>by simp at h⟩,none,rfl⟩ ?_ ?_⟩
    ·rintro i ys σ H' x hx ⟨sm,⟨ps,rfl,hpl,_,hR⟩,v,rfl⟩
     obtain⟨z,rfl,hz,hzm,hi'⟩:=aH hx;nofun;have h1:=lo2 z hzm;have h2:=hi2 z hzm;have ez:z - lo=(((z - lo).toNat:Nat):Int):=by lia
     rw[ez];refine⟨(z - lo).toNat,b,m,rfl,hb,hb2,by lia,by lia,λp H2 hp sm2 t2=>?_⟩;refine Ol (by rw[DT];exact hi') ⟨sm.trans sm2,⟨ps++[p],by rw[D0];rfl,by simp[hpl],hi',?_⟩,_,rfl⟩;have et:(ns.map λx=>(x - lo).toNat).take (i+1)=(ns.map λx=>(x - lo).toNat).take i++[(z - lo).toNat]:=by rw[D7,DX,hz];rfl
     rw[et];exact(hR.same sm2).snoc t2
    ·rintro ys σ H' ⟨sm,⟨ps,rfl,hpl,_,hR⟩,v,rfl⟩ l hl
     rw[DW (by simp)]at hR;exact q l ps _ m _ (sm.free hl) (sm.new hl) aj (hR.same ((Oi _).new hl)) (.inr ⟨lo,hi,lo1,hi1,λx hx=>⟨lo2 x hx,hi2 x hx⟩,rfl,m1,m2,m3⟩)
def HdP(K:DU)(H:Hp)(a:Addr)(ps:List Addr)(tb:List (Int×Nat)):Prop:=(SqL K H a (ps.map Ou)/\PartsT H ps tb)\/(SqT K H a (ps.map Ou)/\PartsT H ps tb)\/(SqL K H a (ps.map Ou)/\PartsL H ps tb)
def xl(K:DU):Sp:=λvs H Q _=>∃(a:Addr) (ps:List Addr) (tb:List (Int×Nat)),vs=[.ref a]/\(∀z∈tb,1<=z.2/\z.2<=60)/\
 HdP K H a ps tb/\Q (.int ((dF (tb.map (·.2)):Nat):Int)) H
theorem cU (T:Tx K mg t):FnOk P t.wd K mg base CX0 2 (t.f 26) (t.d 26) ["parts"] (xl K):=by
 refine okT (N:=["parts","least","top","bottom"]) (T.fn 26 rfl) (λH Q hr nd h=>?_)
 ·obtain⟨a,ps,tb,rfl,hb,hs,q⟩:=h
  have hbs:∀b∈tb.map (·.2),1<=b/\b<=60:=λb h=>by
   obtain⟨z,hz,rfl⟩:=D4.mp h;exact hb z hz
  have hpos:∀i,0<dF ((tb.map (·.2)).take i):=λi=>mB λb h=>hbs b (FH h)
  rcases hs with⟨hs,hP⟩|⟨hs,hP⟩|⟨hs,hP⟩
  ·refine⟨_,(af (aJ (i:=1) ao)
   (af (cf Em rfl (aS (K:=K) (qv 0)) (bM (K:=K) (n:=2) rfl (av (aE (i:=2)) (av (aE (i:=3)) aY))) (aq (aJ (i:=1) (aG dG (aG dq (qv 1) (aI (cD T) hr (T.fn 25 rfl) (ai (qv 1) (ai (qv 3) ae)))) (qv 3)))))
   (aq (ax (qv 1))))),?_⟩
   dsimp only[st0];nofun;refine⟨a,rfl,⟨_,hs⟩,cF (a:=a) (xs:=ps.map Ou) (λi σ H'=>H'=H/\∃v w,σ=[some (Ou a),some (Of ((dF ((tb.map (·.2)).take i):Nat):Int)),v,w]) ⟨rfl,none,none,rfl⟩ (λi σ H' _ ⟨e,_⟩=>by rw[e];exact hs) ?_ ?_⟩
   ·rintro i x σ H' hx ⟨rfl,v,w,rfl⟩
    rw[DX]at hx;cases e:ps[i]? with
    | none=>rw[e]at hx;cases hx
    | some p=>
     rw[e]at hx;obtain rfl:Ou p=x:=Er hx;have hi:i<tb.length:=by rw[<-hP.1];exact(D6.mp e).1
     have hz:=hP.2 i p tb[i] e (by simp[hi]);have hb2:=hb tb[i] (D1 hi);have hget:(tb.map (·.2))[i]? = some tb[i].2:=by simp[hi]
     have hl:=gT _ i _ hget;have hp0:=hpos i;generalize dF ((tb.map (·.2)).take i)=L at hl hp0 ⊢;rw[hl];generalize tb[i].2=c at hb2 hz ⊢;refine⟨p,_,rfl,Oe hz,rfl,_,_,rfl,?_⟩;nofun;refine⟨_,_,rfl,?_⟩;nofun;refine⟨rfl,?_⟩;have hg1:0<FX L c:=Hv _ hp0;have hg2:FX L c<=c:=HM ⋯ (HI L c);have hst:=jw L c;nofun;refine⟨L,c,rfl,?_⟩;generalize FX L c=g at hg1 hg2 hst ⊢;have e:(L:Int) / (g:Int)*(c:Int)=((GS L c:Nat):Int):=by rw[<-hst,GJ,FF]
     nofun;rw[e];exact⟨rfl,_,_,rfl⟩
   ·rintro σ H' ⟨rfl,v,w,rfl⟩
    nofun;have el:(tb.map (·.2)).take (ps.map Ou).length=tb.map (·.2):=DW (by simp[hP.1]);rw[el];exact q
  ·refine⟨_,(af (aJ (i:=1) ao)
   (af (cf Em rfl (iQ (K:=K) (qv 0)) (bM (K:=K) (n:=2) rfl (av (aE (i:=2)) (av (aE (i:=3)) aY))) (aq (aJ (i:=1) (aG dG (aG dq (qv 1) (aI (cD T) hr (T.fn 25 rfl) (ai (qv 1) (ai (qv 3) ae)))) (qv 3)))))
   (aq (ax (qv 1))))),?_⟩
   dsimp only[st0];nofun;refine⟨a,rfl,⟨_,hs⟩,oT (a:=a) (xs:=ps.map Ou) (λi σ H'=>H'=H/\∃v w,σ=[some (Ou a),some (Of ((dF ((tb.map (·.2)).take i):Nat):Int)),v,w]) ⟨rfl,none,none,rfl⟩ (λi σ H' _ ⟨e,_⟩=>by rw[e];exact hs) ?_ ?_⟩
   ·rintro i x σ H' hx ⟨rfl,v,w,rfl⟩
    rw[DX]at hx;cases e:ps[i]? with
    | none=>rw[e]at hx;cases hx
    | some p=>
     rw[e]at hx;obtain rfl:Ou p=x:=Er hx;have hi:i<tb.length:=by rw[<-hP.1];exact(D6.mp e).1
     have hz:=hP.2 i p tb[i] e (by simp[hi]);have hb2:=hb tb[i] (D1 hi);have hget:(tb.map (·.2))[i]? = some tb[i].2:=by simp[hi]
     have hl:=gT _ i _ hget;have hp0:=hpos i;generalize dF ((tb.map (·.2)).take i)=L at hl hp0 ⊢;rw[hl];generalize tb[i].2=c at hb2 hz ⊢;refine⟨p,_,rfl,Oe hz,rfl,_,_,rfl,?_⟩;nofun;refine⟨_,_,rfl,?_⟩;nofun;refine⟨rfl,?_⟩;have hg1:0<FX L c:=Hv _ hp0;have hg2:FX L c<=c:=HM ⋯ (HI L c);have hst:=jw L c;nofun;refine⟨L,c,rfl,?_⟩;generalize FX L c=g at hg1 hg2 hst ⊢;have e:(L:Int) / (g:Int)*(c:Int)=((GS L c:Nat):Int):=by rw[<-hst,GJ,FF]
     nofun;rw[e];exact⟨rfl,_,_,rfl⟩
   ·rintro σ H' ⟨rfl,v,w,rfl⟩
    nofun;have el:(tb.map (·.2)).take (ps.map Ou).length=tb.map (·.2):=DW (by simp[hP.1]);rw[el];exact q
  ·refine⟨_,(af (aJ (i:=1) ao)
   (af (cf Em rfl (aS (K:=K) (qv 0)) (pL (K:=K) (n:=2) rfl (av (aE (i:=2)) (av (aE (i:=3)) aY))) (aq (aJ (i:=1) (aG dG (aG dq (qv 1) (aI (cD T) hr (T.fn 25 rfl) (ai (qv 1) (ai (qv 3) ae)))) (qv 3)))))
   (aq (ax (qv 1))))),?_⟩
   dsimp only[st0];nofun;refine⟨a,rfl,⟨_,hs⟩,cF (a:=a) (xs:=ps.map Ou) (λi σ H'=>H'=H/\∃v w,σ=[some (Ou a),some (Of ((dF ((tb.map (·.2)).take i):Nat):Int)),v,w]) ⟨rfl,none,none,rfl⟩ (λi σ H' _ ⟨e,_⟩=>by rw[e];exact hs) ?_ ?_⟩
   ·rintro i x σ H' hx ⟨rfl,v,w,rfl⟩
    rw[DX]at hx;cases e:ps[i]? with
    | none=>rw[e]at hx;cases hx
    | some p=>
     rw[e]at hx;obtain rfl:Ou p=x:=Er hx;have hi:i<tb.length:=by rw[<-hP.1];exact(D6.mp e).1
     have hz:=hP.2 i p tb[i] e (by simp[hi]);have hb2:=hb tb[i] (D1 hi);have hget:(tb.map (·.2))[i]? = some tb[i].2:=by simp[hi]
     have hl:=gT _ i _ hget;have hp0:=hpos i;generalize dF ((tb.map (·.2)).take i)=L at hl hp0 ⊢;rw[hl];generalize tb[i].2=c at hb2 hz ⊢;refine⟨p,_,rfl,Od hz,rfl,_,_,rfl,?_⟩;nofun;refine⟨_,_,rfl,?_⟩;nofun;refine⟨rfl,?_⟩;have hg1:0<FX L c:=Hv _ hp0;have hg2:FX L c<=c:=HM ⋯ (HI L c);have hst:=jw L c;nofun;refine⟨L,c,rfl,?_⟩;generalize FX L c=g at hg1 hg2 hst ⊢;have e:(L:Int) / (g:Int)*(c:Int)=((GS L c:Nat):Int):=by rw[<-hst,GJ,FF]
     nofun;rw[e];exact⟨rfl,_,_,rfl⟩
   ·rintro σ H' ⟨rfl,v,w,rfl⟩
    nofun;have el:(tb.map (·.2)).take (ps.map Ou).length=tb.map (·.2):=DW (by simp[hP.1]);rw[el];exact q
def tY(K:DU):Sp:=λvs H Q _=>∃(a:Addr) (ps:List Addr) (tb:List (Int×Nat)),vs=[.ref a]/\tb.length<=200/\(∀z∈tb,1<=z.2/\z.2<=60)/\(∀z∈tb,-(10 ^ 18)<z.1/\z.1<10 ^ 18)/\
 HdP K H a ps tb/\∀l,H l=none->Q (.ref l) (upd H l (.lst ((bP tb).map Of)))
theorem gs (T:Tx K mg t):FnOk P t.wd K mg base CX0 3 (t.f 27) (t.d 27) ["parts"] (tY K):=by
 refine okT (N:=["parts","least"]) (T.fn 27 rfl) (λH Q hr nd h=>?_)
 ·obtain⟨a,ps,tb,rfl,hlen,hb,ht,hs,q⟩:=h
  rcases hs with⟨hs,hP⟩|⟨hs,hP⟩|⟨hs,hP⟩
  ·refine⟨_,(af (aJ (i:=1) (aI (cU T) hr (T.fn 26 rfl) (ai (qv 0) ae)))
   (aq (ax (bj (N:=["top","bottom","least"]) (tgs:=["top","bottom"]) (frs:=["least"]) (ix:=[1]) ⟨rfl,by decide +kernel,rfl,by decide +kernel,rfl,rfl,⟨⟨rfl,rfl,_,rfl,rfl⟩,D3⟩,⟨rfl,D3⟩,rfl⟩ rfl (aS (K:=K) (qv 0)) (λ_ _ _ _=>(bM (K:=K) (n:=2) rfl (av (aE (i:=0)) (av (aE (i:=1)) aY)))) (λ_ _ _ _=>(aG dG (qv 0) (aG dq (qv 2) (qv 1)))))))),?_⟩
   dsimp only[st0];nofun;refine⟨a,ps,tb,rfl,hb,.inl ⟨hs,hP⟩,?_⟩;nofun;refine⟨a,rfl,⟨_,hs⟩,bf (a:=a) (vs:=ps.map Ou) (λi ys σ H'=>H'=H/\i<=tb.length/\ys=((bP tb).take i).map Of/\∃v w,σ=[v,w,some (Of ((dF (tb.map (·.2)):Nat):Int))]) (by rw[DT,hP.1];exact au ⋯) (λi ys σ H' h=>by rw[h.2.2.1,DT,Ee,bK];lia) (λi ys σ H' h=>by rw[h.1];exact hs) ⟨rfl,Ec _,rfl,none,none,rfl⟩ ?_ ?_⟩
   ·rintro i ys σ H' x hx ⟨rfl,_,rfl,v,w,rfl⟩
    have hil:=(D6.mp hx).1;obtain⟨p,rfl,hp,_,hi⟩:=aH hx;have hit:i<tb.length:=by rw[<-hP.1];exact hi
    have hz:=hP.2 i p tb[i] hp (by simp[hit]);have hb1:=hb tb[i] (D1 hit);have ht1:=ht tb[i] (D1 hit);have et:(bP tb).take (i+1)=(bP tb).take i++[tb[i].1*((dF (tb.map (·.2)) / tb[i].2:Nat):Int)]:=by
     rw[D7];unfold bP;rw[DX];simp[hit]
    rw[et];generalize dF (tb.map (·.2))=L;generalize tb[i]=z at hz hb1 ht1;refine bu hz ?_;dsimp only[E7];nofun;refine Ol hil ⟨rfl,hit,?_,_,_,rfl⟩;rw[D0,FF];rfl
   ·rintro ys σ H' ⟨rfl,_,rfl,v,w,rfl⟩ l hl
    rw[DW (by rw[bK,DT,hP.1];exact DY _)];exact q l hl
  ·refine⟨_,(af (aJ (i:=1) (aI (cU T) hr (T.fn 26 rfl) (ai (qv 0) ae)))
   (aq (ax (bj (N:=["top","bottom","least"]) (tgs:=["top","bottom"]) (frs:=["least"]) (ix:=[1]) ⟨rfl,by decide +kernel,rfl,by decide +kernel,rfl,rfl,⟨⟨rfl,rfl,_,rfl,rfl⟩,D3⟩,⟨rfl,D3⟩,rfl⟩ rfl (iQ (K:=K) (qv 0)) (λ_ _ _ _=>(bM (K:=K) (n:=2) rfl (av (aE (i:=0)) (av (aE (i:=1)) aY)))) (λ_ _ _ _=>(aG dG (qv 0) (aG dq (qv 2) (qv 1)))))))),?_⟩
   dsimp only[st0];nofun;refine⟨a,ps,tb,rfl,hb,(.inr <| .inl ⟨hs,hP⟩),?_⟩;nofun;refine⟨a,rfl,⟨_,hs⟩,fc (a:=a) (vs:=ps.map Ou) (λi ys σ H'=>H'=H/\i<=tb.length/\ys=((bP tb).take i).map Of/\∃v w,σ=[v,w,some (Of ((dF (tb.map (·.2)):Nat):Int))]) (by rw[DT,hP.1];exact au ⋯) (λi ys σ H' h=>by rw[h.2.2.1,DT,Ee,bK];lia) (λi ys σ H' h=>by rw[h.1];exact hs) ⟨rfl,Ec _,rfl,none,none,rfl⟩ ?_ ?_⟩
   ·rintro i ys σ H' x hx ⟨rfl,_,rfl,v,w,rfl⟩
    have hil:=(D6.mp hx).1;obtain⟨p,rfl,hp,_,hi⟩:=aH hx;have hit:i<tb.length:=by rw[<-hP.1];exact hi
    have hz:=hP.2 i p tb[i] hp (by simp[hit]);have hb1:=hb tb[i] (D1 hit);have ht1:=ht tb[i] (D1 hit);have et:(bP tb).take (i+1)=(bP tb).take i++[tb[i].1*((dF (tb.map (·.2)) / tb[i].2:Nat):Int)]:=by
     rw[D7];unfold bP;rw[DX];simp[hit]
    rw[et];generalize dF (tb.map (·.2))=L;generalize tb[i]=z at hz hb1 ht1;refine bu hz ?_;dsimp only[E7];nofun;refine Ol hil ⟨rfl,hit,?_,_,_,rfl⟩;rw[D0,FF];rfl
   ·rintro ys σ H' ⟨rfl,_,rfl,v,w,rfl⟩ l hl
    rw[DW (by rw[bK,DT,hP.1];exact DY _)];exact q l hl
  ·refine⟨_,(af (aJ (i:=1) (aI (cU T) hr (T.fn 26 rfl) (ai (qv 0) ae)))
   (aq (ax (bj (N:=["top","bottom","least"]) (tgs:=["top","bottom"]) (frs:=["least"]) (ix:=[1]) ⟨rfl,by decide +kernel,rfl,by decide +kernel,rfl,rfl,⟨⟨rfl,rfl,_,rfl,rfl⟩,D3⟩,⟨rfl,D3⟩,rfl⟩ rfl (aS (K:=K) (qv 0)) (λ_ _ _ _=>(pL (K:=K) (n:=2) rfl (av (aE (i:=0)) (av (aE (i:=1)) aY)))) (λ_ _ _ _=>(aG dG (qv 0) (aG dq (qv 2) (qv 1)))))))),?_⟩
   dsimp only[st0];nofun;refine⟨a,ps,tb,rfl,hb,(.inr <| .inr ⟨hs,hP⟩),?_⟩;nofun;refine⟨a,rfl,⟨_,hs⟩,bf (a:=a) (vs:=ps.map Ou) (λi ys σ H'=>H'=H/\i<=tb.length/\ys=((bP tb).take i).map Of/\∃v w,σ=[v,w,some (Of ((dF (tb.map (·.2)):Nat):Int))]) (by rw[DT,hP.1];exact au ⋯) (λi ys σ H' h=>by rw[h.2.2.1,DT,Ee,bK];lia) (λi ys σ H' h=>by rw[h.1];exact hs) ⟨rfl,Ec _,rfl,none,none,rfl⟩ ?_ ?_⟩
   ·rintro i ys σ H' x hx ⟨rfl,_,rfl,v,w,rfl⟩
    have hil:=(D6.mp hx).1;obtain⟨p,rfl,hp,_,hi⟩:=aH hx;have hit:i<tb.length:=by rw[<-hP.1];exact hi
    have hz:=hP.2 i p tb[i] hp (by simp[hit]);have hb1:=hb tb[i] (D1 hit);have ht1:=ht tb[i] (D1 hit);have et:(bP tb).take (i+1)=(bP tb).take i++[tb[i].1*((dF (tb.map (·.2)) / tb[i].2:Nat):Int)]:=by
     rw[D7];unfold bP;rw[DX];simp[hit]
    rw[et];generalize dF (tb.map (·.2))=L;generalize tb[i]=z at hz hb1 ht1;refine pS hz ?_;dsimp only[E7];nofun;refine Ol hil ⟨rfl,hit,?_,_,_,rfl⟩;rw[D0,FF];rfl
   ·rintro ys σ H' ⟨rfl,_,rfl,v,w,rfl⟩ l hl
    rw[DW (by rw[bK,DT,hP.1];exact DY _)];exact q l hl
theorem zO{α:Type}{xs:List α}{r:Int}(h0:0<=r)(h1:r<xs.length):∃v,atI xs r=some v/\v∈xs:=by
 have hl:r.toNat<xs.length:=by lia
 have e:r=(r.toNat:Int):=by lia
 refine⟨xs[r.toNat],?_,D1 _⟩;have q:=bg (xs:=xs) (j:=r.toNat) (v:=xs[r.toNat]) (by simp[hl]);rw[<-e]at q;exact q
def Ltr(n:Nat)(z:Str):Prop:=z.length<=n/\∀c∈z.cps.toList,97<=c/\c<=122
theorem Ltr.cat{y:Str}(h:Ltr n x)(g:Ltr m y):Ltr (n+m) (x++y):=by
 have e:(x++y).cps=x.cps++y.cps:=rfl;refine⟨?_,λc hc=>?_⟩
 ·show(x++y).cps.size<=_
  rw[e,Lm];exact Nat.add_le_add h.1 g.1
 ·rw[e,EM]at hc
  rcases Et.mp hc with q|q
  ·exact h.2 c q
  ·exact g.2 c q
theorem Ltr.mono(h:Ltr n z)(g:n<=m):Ltr m z:=⟨ET h.1 g,h.2⟩
instance {n:Nat}{z:Str}:Decidable (Ltr n z):=by unfold Ltr;exact inferInstance
theorem DB:(Ef ((n:Nat):Int).toNat [Of 0]).flatten=(Ef n (0:Int)).map Of:=by
 rw[E3,F9]
 induction n with
 | zero=>rfl
 | succ n ih=>rw[Fe,GO,ih,Fe];rfl
noncomputable def tZ(m:Nat)(z:Str):List Int:=z.cps.toList.map (λc=>((c:Nat):Int) - 96)++Ef (m - z.length) 0
def TRows(H:Hp)(ps:List Addr)(zs:List Str)(m:Nat):Prop:=ps.length=zs.length/\∀(i:Nat) (p:Addr) (z:Str),ps[i]? = some p->zs[i]? = some z->H p=some (.tup ((tZ m z).map Of))
theorem TRows.same{H:Hp}{zs:List Str}(h:TRows H ps zs m)(s:Same H H'):TRows H' ps zs m:=⟨h.1,λi p z e1 e2=>s _ _ (h.2 i p z e1 e2)⟩
theorem TRows.snoc{H:Hp}{zs:List Str}{p:Addr}(h:TRows H ps zs m)(hp:H p=some (.tup ((tZ m z).map Of))):TRows H (ps++[p]) (zs++[z]) m:=by
 refine⟨by simp[h.1],λi p' z' e1 e2=>?_⟩;by_cases hi:i<ps.length
 ·rw[Ek hi]at e1
  rw[Ek (by rw[<-h.1];exact hi)]at e2;exact h.2 i p' z' e1 e2
 ·have hl:=(D6.mp e1).1
  have e:i=ps.length:=by simp at hl;lia
  subst e;rw[EE (DY _)]at e1;rw[h.1,EE (DY _)]at e2;simp at e1 e2;rw[<-e1,<-e2];exact hp
def zP:Sp:=λvs H Q _=>∃(z:Str) (m:Nat),vs=[.str z,.int m]/\Ltr 30 z/\z.length<=m/\m<=30/\∀p H',H p=none->Same H H'->H' p=some (.tup ((tZ m z).map Of))->Q (.ref p) H'
theorem iz (T:Tx K mg t):FnOk P t.wd K mg base CX0 1 (t.f 29) (t.d 29) ["text","columns"] zP:=by
 refine okT (N:=["text","columns","before_first","letters"]) (T.fn 29 rfl) (λH Q hr nd h=>?_)
 ·obtain⟨z,m,rfl,hz,hzm,hm,k⟩:=h
  have hzs:z.cps.size=z.length:=rfl;refine⟨_,(af (aJ (i:=2) (aG cW (ag uO (by rfl) T.rq uW (ai bE ae)) ao))
   (af (gR (i:=3) (N:=["letter","before_first"]) (tgs:=["letter"]) (frs:=["before_first"]) (ix:=[2])  nd rfl (Fh rfl) ⟨rfl,by decide +kernel,rfl,by decide +kernel,rfl,rfl,⟨⟨rfl,rfl,_,rfl,rfl⟩,D3⟩,⟨rfl,D3⟩,rfl⟩ rfl (zB (qv 0)) (λ_ _ _ _=>(aE (i:=0))) (λ_ _ _ _=>(aG cW (ag uO (by rfl) T.rq uW (ai (qv 0) ae)) (qv 1))))
   (aq (ax (aT (bY (K:=K)) (by rfl) T.aW aP (ai (aG BF (qv 3) (aG sq (bo (ai ao ae)) (aG cW (qv 1) (ag dZ (by rfl) T.bA aO (ai (qv 0) ae))))) ae)))))),?_⟩
  dsimp only[st0];nofun;refine⟨_,rfl,by decide +kernel,?_⟩;nofun;have e97:(((Ey "a").cps.getD 0 0:Nat):Int) - 1=96:=by decide +kernel
  rw[e97];refine⟨z,rfl,gw (n:=z.cps.size) (λi ys σ H'=>H'=H/\ys=((z.cps.toList.take i).map (λc=>((c:Nat):Int) - 96)).map Of/\i<=z.cps.size/\∃v,σ=[v,some (Of 96)]) (au (by have:=hz.1;lia)) (λi ys σ H' h=>by obtain⟨_,rfl,hi,_⟩:=h;simp;lia) ⟨rfl,rfl,Ec _,none,rfl⟩ (λi ys σ H' hi h=>hi) (λys σ H' h=>rfl) ?_ ?_⟩
  ·rintro i x ys σ H1 H2 hi ⟨rfl,rfl,_,v,rfl⟩ ⟨rfl,c,hc,rfl⟩
   nofun;refine⟨_,rfl,rfl,?_⟩;nofun;refine Ol hi ⟨rfl,?_,hi,_,rfl⟩;have ec:z.cps.toList[i]? = some c:=by rw[Gb];exact hc
   rw[D7,ec,D0,D0];rfl
  ·rintro ys σ H1 ⟨rfl,rfl,_,v,rfl⟩ a ha
   rw[DW (by simp)];obtain⟨H2,e9,s1,t1⟩:=nwR ha (.lst ((z.cps.toList.map (λc=>((c:Nat):Int) - 96)).map Of));rw[e9];nofun;refine⟨aF (by simp),λb hb=>?_⟩;obtain⟨H3,e9,s2,e8,tb⟩:=nwD s1 hb (.lst [Of 0]);rw[e9];have t2:=e8 _ _ t1;nofun;refine⟨z,rfl,aF ⋯,?_⟩;nofun;have em:(m:Int) - (z.length:Int)=((m - z.length:Nat):Int):=by lia
   rw[em];refine⟨b,_,_,rfl,rfl,tb,by lia,by lia,aF (by simp only[Ej,E2,E3];lia),λd hd=>?_⟩;rw[DB];obtain⟨H4,e9,s3,e8,td⟩:=nwD s2 hd (.lst ((Ef (m - z.length) (0:Int)).map Of));rw[e9];have t3:=e8 _ _ t2;refine⟨a,d,_,_,rfl,rfl,t3,td,aF (by rw[DT,DT,DT,Fz,E8];lia),λe he=>?_⟩;have eq1:(z.cps.toList.map (λc=>((c:Nat):Int) - 96)).map Of++(Ef (m - z.length) (0:Int)).map Of=(tZ m z).map Of:=by unfold tZ;rw[<-D0]
   rw[eq1];obtain⟨H5,e9,s4,te⟩:=nwS s3 he (.lst ((tZ m z).map Of));rw[e9];refine df (Od te) λf hf=>?_
   nofun;exact k f _ (s4.free hf) (s4.new hf) aj
def xm(zs:List Str)(m:Nat):Prop:=(∀z∈zs,z.length<=m)/\(zs=[]/\m=0\/∃z∈zs,z.length=m)
def xn(K:DU):Sp:=λvs H Q _=>∃(a:Addr) (zs:List Str),vs=[.ref a]/\(SqL K H a (zs.map Oh)\/SqT K H a (zs.map Oh))/\zs.length<=200/\(∀z∈zs,Ltr 30 z)/\∀(l:Addr) (ps:List Addr) (m:Nat) H',H l=none->Same H H'->H' l=some (.lst (ps.map Ou))->TRows H' ps zs m->xm zs m->m<=30->Q (.ref l) H'
theorem kJ (T:Tx K mg t):FnOk P t.wd K mg base CX0 2 (t.f 30) (t.d 30) ["texts"] (xn K):=by
 refine okT (N:=["texts","columns"]) (T.fn 30 rfl) (λH Q hr nd h=>?_)
 ·obtain⟨a,zs,rfl,hs,hlen,hL,q⟩:=h
  rcases hs with hs|hs
  ·refine⟨_,(af (aJ (i:=1) (qC (K:=K) rfl rfl T.lW (ai (bj (N:=["text"]) (tgs:=["text"]) (frs:=[]) (ix:=[]) ⟨rfl,by decide +kernel,rfl,by decide +kernel,rfl,rfl,D3,D3,rfl⟩ rfl (aS (K:=K) (qv 0)) (λ_ _ _ _=>(aE (i:=0))) (λ_ _ _ _=>(ag dZ (by rfl) T.bA aO (ai (qv 0) ae)))) ae)))
   (aq (ax (bj (N:=["text","columns"]) (tgs:=["text"]) (frs:=["columns"]) (ix:=[1]) ⟨rfl,by decide +kernel,rfl,by decide +kernel,rfl,rfl,⟨⟨rfl,rfl,_,rfl,rfl⟩,D3⟩,⟨rfl,D3⟩,rfl⟩ rfl (aS (K:=K) (qv 0)) (λ_ _ _ _=>(aE (i:=0))) (λ_ _ _ _=>(aI (iz T) hr (T.fn 29 rfl) (ai (qv 0) (ai (qv 1) ae)))))))),?_⟩
   dsimp only[st0];nofun;refine⟨a,rfl,⟨_,hs⟩,bf (a:=a) (vs:=zs.map Oh) (λi ys σ H'=>H'=H/\ys=((zs.take i).map λz=>((z.length:Nat):Int)).map Of/\i<=zs.length/\∃v,σ=[v]) (by rw[DT];exact au ⋯) (λi ys σ H' h=>by obtain⟨_,rfl,hi,_⟩:=h;simp;lia) (λi ys σ H' h=>by rw[h.1];exact hs) ⟨rfl,rfl,Ec _,none,rfl⟩ ?_ ?_⟩
   ·rintro i ys σ H' x hx ⟨rfl,rfl,_,v,rfl⟩
    obtain⟨z,rfl,hz,hzm,hi'⟩:=aH hx;nofun;refine⟨z,rfl,aF (by have:=(hL z hzm).1;lia),?_⟩;refine Ol (by rw[DT];exact hi') ⟨rfl,?_,hi',_,rfl⟩;rw[D7,hz,D0,D0];rfl
   ·rintro ys σ H' ⟨rfl,rfl,_,v,rfl⟩ l0 hl0
    rw[DW (by simp)];obtain⟨H1,e9,s0,t0⟩:=nwR hl0 (.lst ((zs.map λz=>((z.length:Nat):Int)).map Of));rw[e9];nofun;refine⟨l0,_,rfl,Od t0,λmm hmm=>?_⟩;obtain⟨m,rfl,hM⟩:∃m:Nat,mm=m/\xm zs m:=by
     rcases hmm with⟨h0,rfl⟩|⟨h1,h2⟩
     ·have e0:zs=[]:=KS.mp h0
      exact⟨0,rfl,by rw[e0];exact λz h=>(nomatch h),.inl ⟨e0,rfl⟩⟩
     ·obtain⟨z,hz,rfl⟩:=D4.mp h1
      refine⟨z.length,rfl,λy hy=>?_,.inr ⟨z,hz,rfl⟩⟩;have:=h2 _ (D4.mpr ⟨y,hy,rfl⟩);lia
    have hm:m<=30:=by
     rcases hM.2 with⟨_,rfl⟩|⟨z,hz,rfl⟩
     ·lia
     ·exact(hL z hz).1
    nofun;refine⟨a,rfl,⟨_,s0.seq hs⟩,bf (a:=a) (vs:=zs.map Oh) (λi ys σ H2=>Same H' H2/\(∃ps:List Addr,ys=ps.map Ou/\ps.length=i/\i<=zs.length/\TRows H2 ps (zs.take i) m)/\∃v,σ=[v,some (Of m)]) (by rw[DT];exact au ⋯) (λi ys σ H2 h=>by obtain⟨_,⟨ps,rfl,e,_⟩,_⟩:=h;rw[DT,e]) (λi ys σ H2 h=>h.1.seq hs) ⟨s0,⟨[],rfl,rfl,Ec _,rfl,λi p z h=>by simp at h⟩,none,rfl⟩ ?_ ?_⟩
    ·rintro i ys σ H2 x hx ⟨sm,⟨ps,rfl,hpl,_,hR⟩,v,rfl⟩
     obtain⟨z,rfl,hz,hzm,hi'⟩:=aH hx;nofun;refine⟨z,m,rfl,hL z hzm,hM.1 z hzm,hm,λp H3 hp sm2 t2=>?_⟩;refine Ol (by rw[DT];exact hi') ⟨sm.trans sm2,⟨ps++[p],by rw[D0];rfl,by simp[hpl],hi',?_⟩,_,rfl⟩;have et:zs.take (i+1)=zs.take i++[z]:=by rw[D7,hz];rfl
     rw[et];exact(hR.same sm2).snoc t2
    ·rintro ys σ H2 ⟨sm,⟨ps,rfl,hpl,_,hR⟩,v,rfl⟩ l hl
     rw[DW (by simp)]at hR;exact q l ps m _ (sm.free hl) (sm.new hl) aj (hR.same ((Oi _).new hl)) hM hm
  ·refine⟨_,(af (aJ (i:=1) (qC (K:=K) rfl rfl T.lW (ai (bj (N:=["text"]) (tgs:=["text"]) (frs:=[]) (ix:=[]) ⟨rfl,by decide +kernel,rfl,by decide +kernel,rfl,rfl,D3,D3,rfl⟩ rfl (iQ (K:=K) (qv 0)) (λ_ _ _ _=>(aE (i:=0))) (λ_ _ _ _=>(ag dZ (by rfl) T.bA aO (ai (qv 0) ae)))) ae)))
   (aq (ax (bj (N:=["text","columns"]) (tgs:=["text"]) (frs:=["columns"]) (ix:=[1]) ⟨rfl,by decide +kernel,rfl,by decide +kernel,rfl,rfl,⟨⟨rfl,rfl,_,rfl,rfl⟩,D3⟩,⟨rfl,D3⟩,rfl⟩ rfl (iQ (K:=K) (qv 0)) (λ_ _ _ _=>(aE (i:=0))) (λ_ _ _ _=>(aI (iz T) hr (T.fn 29 rfl) (ai (qv 0) (ai (qv 1) ae)))))))),?_⟩
   dsimp only[st0];nofun;refine⟨a,rfl,⟨_,hs⟩,fc (a:=a) (vs:=zs.map Oh) (λi ys σ H'=>H'=H/\ys=((zs.take i).map λz=>((z.length:Nat):Int)).map Of/\i<=zs.length/\∃v,σ=[v]) (by rw[DT];exact au ⋯) (λi ys σ H' h=>by obtain⟨_,rfl,hi,_⟩:=h;simp;lia) (λi ys σ H' h=>by rw[h.1];exact hs) ⟨rfl,rfl,Ec _,none,rfl⟩ ?_ ?_⟩
   ·rintro i ys σ H' x hx ⟨rfl,rfl,_,v,rfl⟩
    obtain⟨z,rfl,hz,hzm,hi'⟩:=aH hx;nofun;refine⟨z,rfl,aF (by have:=(hL z hzm).1;lia),?_⟩;refine Ol (by rw[DT];exact hi') ⟨rfl,?_,hi',_,rfl⟩;rw[D7,hz,D0,D0];rfl
   ·rintro ys σ H' ⟨rfl,rfl,_,v,rfl⟩ l0 hl0
    rw[DW (by simp)];obtain⟨H1,e9,s0,t0⟩:=nwR hl0 (.lst ((zs.map λz=>((z.length:Nat):Int)).map Of));rw[e9];nofun;refine⟨l0,_,rfl,Od t0,λmm hmm=>?_⟩;obtain⟨m,rfl,hM⟩:∃m:Nat,mm=m/\xm zs m:=by
     rcases hmm with⟨h0,rfl⟩|⟨h1,h2⟩
     ·have e0:zs=[]:=KS.mp h0
      exact⟨0,rfl,by rw[e0];exact λz h=>(nomatch h),.inl ⟨e0,rfl⟩⟩
     ·obtain⟨z,hz,rfl⟩:=D4.mp h1
      refine⟨z.length,rfl,λy hy=>?_,.inr ⟨z,hz,rfl⟩⟩;have:=h2 _ (D4.mpr ⟨y,hy,rfl⟩);lia
    have hm:m<=30:=by
     rcases hM.2 with⟨_,rfl⟩|⟨z,hz,rfl⟩
     ·lia
     ·exact(hL z hz).1
    nofun;refine⟨a,rfl,⟨_,s0.tup hs⟩,fc (a:=a) (vs:=zs.map Oh) (λi ys σ H2=>Same H' H2/\(∃ps:List Addr,ys=ps.map Ou/\ps.length=i/\i<=zs.length/\TRows H2 ps (zs.take i) m)/\∃v,σ=[v,some (Of m)]) (by rw[DT];exact au ⋯) (λi ys σ H2 h=>by obtain⟨_,⟨ps,rfl,e,_⟩,_⟩:=h;rw[DT,e]) (λi ys σ H2 h=>h.1.tup hs) ⟨s0,⟨[],rfl,rfl,Ec _,rfl,λi p z h=>by simp at h⟩,none,rfl⟩ ?_ ?_⟩
    ·rintro i ys σ H2 x hx ⟨sm,⟨ps,rfl,hpl,_,hR⟩,v,rfl⟩
     obtain⟨z,rfl,hz,hzm,hi'⟩:=aH hx;nofun;refine⟨z,m,rfl,hL z hzm,hM.1 z hzm,hm,λp H3 hp sm2 t2=>?_⟩;refine Ol (by rw[DT];exact hi') ⟨sm.trans sm2,⟨ps++[p],by rw[D0];rfl,by simp[hpl],hi',?_⟩,_,rfl⟩;have et:zs.take (i+1)=zs.take i++[z]:=by rw[D7,hz];rfl
     rw[et];exact(hR.same sm2).snoc t2
    ·rintro ys σ H2 ⟨sm,⟨ps,rfl,hpl,_,hR⟩,v,rfl⟩ l hl
     rw[DW (by simp)]at hR;exact q l ps m _ (sm.free hl) (sm.new hl) aj (hR.same ((Oi _).new hl)) hM hm
def Rises(rss:List (List Int))(lt:Nat->Nat->Bool):Prop:=∀(i j:Nat) (r r':List Int),rss[i]? = some r->rss[j]? = some r'->HT.cM r r'=lt i j
noncomputable def ltN(ns:List Int)(i j:Nat):Bool:=decide (ns.getD i 0<ns.getD j 0)
noncomputable def ltP(tb:List (Int×Nat))(i j:Nat):Bool:=decide ((tb.getD i (0,1)).1*((tb.getD j (0,1)).2:Int)<(tb.getD j (0,1)).1*((tb.getD i (0,1)).2:Int))
noncomputable def ltT(zs:List Str)(i j:Nat):Bool:=decide ((zs.getD i ⟨#[]⟩).cps.toList<(zs.getD j ⟨#[]⟩).cps.toList)
theorem cz{α:Type}{xs:List α}{x d:α}(h:xs[i]? = some x):xs.getD i d=x:=by rw[DS,h];rfl
theorem map_some{α β:Type}{f:α->β}{xs:List α}{y:β}(h:(xs.map f)[i]? = some y):∃x,xs[i]? = some x/\y=f x:=by
 rw[DX]at h;cases e:xs[i]? with
 | none=>rw[e]at h;cases h
 | some x=>rw[e]at h;exact⟨x,rfl,(Er h).symm⟩
theorem fT{α:Type}{xs:List α}(h:i<xs.length):∃x,xs[i]? = some x:=⟨xs[i],by simp[h]⟩
theorem qY{ns:List Int}(h:Spelt ns b zs m)(hb:2<=b):Rises (zs.map λz=>dg z b m) (ltN ns):=by
 intro i j r r' e1 e2;obtain⟨z,hz,rfl⟩:=map_some e1;obtain⟨w,hw,rfl⟩:=map_some e2;obtain⟨x,hx⟩:=fT (xs:=ns) (i:=i) (by rw[<-h.len];exact(D6.mp hz).1);obtain⟨y,hy⟩:=fT (xs:=ns) (i:=j) (by rw[<-h.len];exact(D6.mp hw).1);unfold ltN;rw[cz hx,cz hy];exact h.lex hb hx hy hz hw
theorem xo{tb:List (Int×Nat)}(h:Spelt (bP tb) b zs m)(hb:2<=b)(hb1:∀z∈tb,1<=z.2/\z.2<=60):Rises (zs.map λz=>dg z b m) (ltP tb):=by
 intro i j r r' e1 e2;have q:=qY h hb i j r r' e1 e2;obtain⟨z0,hz0,rfl⟩:=map_some e1;obtain⟨w0,hw0,rfl⟩:=map_some e2;have l1:i<tb.length:=by rw[<-bK,<-h.len];exact(D6.mp hz0).1
 have l2:j<tb.length:=by rw[<-bK,<-h.len];exact(D6.mp hw0).1
 obtain⟨z,hz⟩:=fT l1;obtain⟨w,hw⟩:=fT l2;obtain⟨x,hx⟩:=fT (xs:=bP tb) (i:=i) (by rw[bK];exact l1);obtain⟨y,hy⟩:=fT (xs:=bP tb) (i:=j) (by rw[bK];exact l2);rw[q];unfold ltN ltP;rw[cz hx,cz hy,cz hz,cz hw];congr 1;exact propext (qE hb1 hz hw hx hy)
theorem xp{zs:List Str}(hL:∀z∈zs,Ltr 30 z)(hM:xm zs m):Rises (zs.map λz=>tZ m z) (ltT zs):=by
 intro i j r r' e1 e2;obtain⟨z,hz,rfl⟩:=map_some e1;obtain⟨w,hw,rfl⟩:=map_some e2;unfold ltT;rw[cz hz,cz hw];have hzm:=Ew hz;have hwm:=Ew hw;have e3:z.cps.toList.length=z.length:=by simp[Jo]
 have e4:w.cps.toList.length=w.length:=by simp[Jo]
 have:=uQ z.cps.toList w.cps.toList m (λc hc=>((hL z hzm).2 c hc).1) (λc hc=>((hL w hwm).2 c hc).1) (by rw[e3];exact hM.1 z hzm) (by rw[e4];exact hM.1 w hwm);rw[e3,e4]at this;exact this
theorem zQ{bs:List (List Int)}{ps:List (List Int×Int)}(h:Cn bs ps)(r:List Int):(jH (ps.map dTf) (gc r)).getD (.int 0)=.int (bs.count r:Nat):=by
 obtain⟨h1,h2,h3⟩:=h;by_cases hr:r∈ps.map (·.1)
 ·obtain⟨⟨r',n⟩,hm,rfl⟩:=D4.mp hr
  rw[(ij (r:=r') (ps:=ps)).2 n h1 hm];have e:=h3 _ hm;have e2:n=(bs.count r':Int):=e;rw[e2];rfl
 ·rw[(ij (r:=r) (ps:=ps)).1 hr,FB.mpr λz=>hr ((h2 r).mpr z)]
  rfl
theorem zR(xs:List V):iA xs none (some (-1))=xs.dropLast:=by
 unfold iA;rw[HT.l8,EB,Io,Kv];congr 1
 first
  | rfl
  | (unfold HT.sIx;simp;lia)
  | (unfold HT.sIx;split<;>lia)
theorem lO(r:List Int):(gc r).map kV=r.map Of:=by rw[lI]
noncomputable def cV(zs:List (List Int×Int)):List (List Int):=zs.map λz=>z.1.dropLast
def DC:Sp:=λvs H Q _=>∃(a:Addr) (as qs:List Addr) (zs:List (List Int×Int)),vs=[.ref a]/\H a=some (.lst (as.map Ou))/\PairsAt H as qs zs/\zs.length<=200/\(∀z∈zs,z.1.length<=201)/\
 ∀(o:Addr) (cs:List (List Int×Int)) H',H o=none->Same H H'->H' o=some (.dT (cs.map dTf))->Cn (cV zs) cs->Q (.ref o) H'
theorem fU (T:Tx K mg t):FnOk P t.wd K mg base CX0 1 (t.f 9) (t.d 9) ["longer"] DC:=by
 refine okT (N:=["longer","many","beginning","rows_with_it","shorter"]) (T.fn 9 rfl) (λH Q hr nd h=>?_)
 ·obtain⟨a,as,qs,zs,rfl,ta,hP,hn,hw,k⟩:=h
  refine⟨_,(af (aJ (i:=1) mY)
   (af (cf Em rfl (aS (K:=K) (qv 0)) (bM (K:=K) (n:=2) rfl (av (aE (i:=2)) (av (aE (i:=3)) aY))) (af (aJ (i:=4) (aT (bY (K:=K)) (by rfl) T.aW aP (ai (cG uM (qv 2) pI (bT (gg gh ao))) ae)))
   (aq (qy (nQ hr) (qv 1) (qv 4) (aG cI (jN (nQ hr) (qv 1) (qv 4) ao) ao)))))
   (aq (ax (qv 1))))),?_⟩
  dsimp only[st0];nofun;intro o ho;obtain⟨H1,e9,s1,(to:H1 o=some (.dT (([]:List (List Int×Int)).map dTf)))⟩:=nwR ho (.dT []);rw[e9];nofun;refine⟨a,rfl,⟨_,Od (s1 _ _ ta)⟩,cF (a:=a) (xs:=as.map Ou) (λi σ H2=>Same H H2/\(∃cs:List (List Int×Int),H2 o=some (.dT (cs.map dTf))/\Cn (cV (zs.take i)) cs/\cs.length<=i)/\∃u v x,σ=[some (Ou a),some (Ou o),u,v,x]) ⟨s1,⟨[],to,by rw[II];exact Cn.nil,DY _⟩,_,_,_,rfl⟩ (λi σ H2 _ h=>Od (h.1 _ _ ta)) ?_ ?_⟩
  ·rintro i x σ H2 hx ⟨s2,⟨cs,to2,hC,hcl⟩,u,v,x',rfl⟩
   obtain⟨p,rfl,hp,_,hi⟩:=aH hx;have hiz:i<zs.length:=by rw[<-hP.1];exact hi
   have hiq:i<qs.length:=by rw[hP.2.1];exact hiz
   have ez:zs[i]? = some zs[i]:=by simp[hiz]
   obtain⟨tp,tq⟩:=hP.2.2 i p _ _ hp (DR hiq) ez;have tp:=s2 _ _ tp;have tq:=s2 _ _ tq;have es:cV (zs.take (i+1))=cV (zs.take i)++[zs[i].1.dropLast]:=by
    unfold cV;rw[D7,ez,D0];rfl
   rw[es];generalize qs[i]=q at tp tq;generalize zs[i]=z at tp tq;nofun;refine bu tp ?_;nofun;refine⟨_,rfl,q,_,rfl,tq,λb H3 s3 tb=>?_⟩;rw[zR,<-Lw]at tb;have to3:=s3 _ _ to2;nofun;refine⟨b,_,rfl,.inr ⟨Oe tb,?_⟩⟩;nofun;refine⟨o,rfl,.inr ⟨_,.inl to3⟩,?_⟩;nofun;obtain⟨m,cs',e1,e2,hC',hl'⟩:=hC.step z.1.dropLast;refine⟨_,DGet.t to3 (k:=gc z.1.dropLast) (by rw[lO];exact tb),?_⟩;rw[e1];nofun;refine⟨o,_,rfl,DPut.t to3 (k:=gc z.1.dropLast) (by rw[lO];exact tb) (by rw[DT];exact au ⋯),?_⟩;rw[e2];exact⟨(s2.trans s3).own ho,⟨cs',aj,hC',by lia⟩,_,_,_,rfl⟩
  ·rintro σ H2 ⟨s2,⟨cs,to2,hC,hcl⟩,u,v,x',rfl⟩
   rw[DT]at hC hcl;rw[DW (by rw[hP.1];exact DY _)]at hC;nofun;exact k o cs H2 ho s2 to2 hC
noncomputable def ow(zs zs':List (List Int×Int)):Int:=(zs.map λz=>if 1<(cV zs').count z.1 then z.2 else 0).sum
noncomputable def fI(zss:List (List (List Int×Int))):Int:=((DZ (zss.length - 1)).map λc=>ow (zss.getD c []) (zss.getD (c+1) [])).sum
def BegsAt(H:Hp)(ds:List Addr)(zss:List (List (List Int×Int))):Prop:=ds.length=zss.length/\∀(i:Nat) d zs,ds[i]? = some d->zss[i]? = some zs->∃as qs,H d=some (.lst (as.map Ou))/\PairsAt H as qs zs
theorem BegsAt.same{H H':Hp}{ds:List Addr}{zss:List (List (List Int×Int))}(h:BegsAt H ds zss)(s:Same H H'):BegsAt H' ds zss:=⟨h.1,λi d zs e1 e2=>let⟨as,qs,a,b⟩:=h.2 i d zs e1 e2;⟨as,qs,s _ _ a,b.same s⟩⟩
def DD:Sp:=λvs H Q _=>∃(a:Addr) (ds:List Addr) (zss:List (List (List Int×Int))),vs=[.ref a]/\H a=some (.lst (ds.map Ou))/\BegsAt H ds zss/\zss.length<=201/\0<zss.length/\(∀zs∈zss,zs.length<=200/\∀z∈zs,z.1.length<=201)/\
 ∀(t:Addr) (n:Int) H',Same H H'->H' t=some (.tup [.int n,.int (fI zss)])->Q (.ref t) H'
theorem t4{f:Nat->Int}(h:Nat):(((DZ n).map f).take (h+1)).sum=(((DZ n).map f).take h).sum+(if h<n then f h else 0):=by
 rw[D7,Fd,DX];by_cases g:h<n
 ·rw[EX g,if_pos g];simp
 ·rw[Fo (by simpa using g),if_neg g];simp
theorem fV (T:Tx K mg t):FnOk P t.wd K mg base CX0 2 (t.f 10) (t.d 10) ["lists"] DD:=by
 refine okT (N:=["lists","steps","moves","column","goings_on","beginning","many"]) (T.fn 10 rfl) (λH Q hr nd h=>?_)
 ·obtain⟨a,ds,zss,rfl,ta,hB,hn,hp,hw,k⟩:=h
  refine⟨_,(af (aJ (i:=1) ao)
   (af (aJ (i:=2) ao)
   (af (cf Em rfl (cR rfl T.bW (ai (aG cW (ag (aU (K:=K)) (by rfl) T.bA aO (ai (qv 0) ae)) ao) ae)) (aE (i:=3)) (af (aJ (i:=4) (aI (fU T) hr (T.fn 9 rfl) (ai (aR (bx (K:=K)) (qv 0) (aG cI (qv 3) ao)) ae)))
   (aq (cf Em rfl (aS (K:=K) (aR (bx (K:=K)) (qv 0) (qv 3))) (bM (K:=K) (n:=2) rfl (av (aE (i:=5)) (av (aE (i:=6)) aY))) (aq (aV (aD rA (jN (nQ hr) (qv 4) (aT (bY (K:=K)) (by rfl) T.aW aP (ai (qv 5) ae)) ao) ao (az _)) (af (f9 (i:=1) nd rfl (Fh rfl) ao iR)
   (aq (f9 (i:=2) nd rfl (Fh rfl) (qv 6) iR))) aK))))))
   (aq (ax (ba (ai (qv 1) (ai (qv 2) ae)))))))),?_⟩
  dsimp only[st0];nofun;refine aL (Od ta) ?_;rw[DT,hB.1];nofun;generalize hN:zss.length - 1=N at *;have eN:((zss.length:Nat):Int) - 1=((N:Nat):Int):=by lia
  rw[eN];refine⟨_,rfl,by lia,by lia,eT (n:=N) (λi σ H'=>Same H H'/\∃(st:Int) (v1 v2 v3 v4:Option V),σ=[some (Ou a),some (Of st),some (Of ((((DZ N).map λc=>ow (zss.getD c []) (zss.getD (c+1) [])).take i).sum)),v1,v2,v3,v4]) ⟨Oi _,0,_,_,_,_,rfl⟩ ?_ ?_⟩
  ·rintro c σ H1 hc ⟨s1,st,v1,v2,v3,v4,rfl⟩
   rw[t4,if_pos hc];generalize (((DZ N).map λc=>ow (zss.getD c []) (zss.getD (c+1) [])).take c).sum=mv;have h1:c+1<zss.length:=by lia
   have h0:c<zss.length:=by lia
   have e1:zss[c+1]? = some zss[c+1]:=by simp[h1]
   have e0:zss[c]? = some zss[c]:=by simp[h0]
   have d1:ds[c+1]? = some (ds[c+1]'(by rw[hB.1];exact h1)):=by simp[hB.1,h1]
   have d0:ds[c]? = some (ds[c]'(by rw[hB.1];exact h0)):=by simp[hB.1,h0]
   obtain⟨as1,qs1,t1,P1⟩:=(hB.same s1).2 _ _ _ d1 e1;obtain⟨as0,qs0,t0,P0⟩:=(hB.same s1).2 _ _ _ d0 e0;obtain⟨w1,w1'⟩:=hw zss[c+1] (D1 h1);obtain⟨w0,w0'⟩:=hw zss[c] (D1 h0);have g1:zss.getD (c+1) []=zss[c+1]:=by rw[DS,e1];rfl
   have g0:zss.getD c []=zss[c]:=by rw[DS,e0];rfl
   rw[g1,g0];generalize zss[c+1]=z1 at P1 w1 w1';generalize zss[c]=z0 at P0 w0 w0';generalize ds[c+1]'(by rw[hB.1];exact h1)=p1 at d1 t1;generalize ds[c]'(by rw[hB.1];exact h0)=p0 at d0 t0;nofun;have ec:(0:Int)+((c:Nat):Int)+1=((c+1:Nat):Int):=by lia
   have ec0:(0:Int)+((c:Nat):Int)=((c:Nat):Int):=by lia
   rw[ec];refine bJ (Od (s1 _ _ ta)) (v:=Ou p1) (bg (by rw[DX,d1];rfl)) ?_;refine⟨p1,as1,qs1,z1,rfl,t1,P1,w1,w1',λo cs H2 ho s2 to hC=>?_⟩;nofun;rw[ec0];refine bJ (Od ((s1.trans s2) _ _ ta)) (v:=Ou p0) (bg (by rw[DX,d0];rfl)) ?_;refine⟨p0,rfl,⟨_,Od (s2 _ _ t0)⟩,cF (a:=p0) (xs:=as0.map Ou) (λi σ H'=>Same H2 H'/\∃(st:Int) (v3 v4:Option V),σ=[some (Ou a),some (Of st),some (Of (mv+((z0.map λz=>if 1<(cV z1).count z.1 then z.2 else 0).take i).sum)),some (Of c),some (Ou o),v3,v4]) ⟨Oi _,st,v3,v4,by simp⟩ (λi σ H' _ h=>Od (h.1 _ _ (s2 _ _ t0))) ?_ ?_⟩
   ·rintro i x σ H3 hx ⟨s3,st,v3,v4,rfl⟩
    obtain⟨p,rfl,hp,_,hi⟩:=aH hx;have hiz:i<z0.length:=by rw[<-P0.1];exact hi
    have hiq:i<qs0.length:=by rw[P0.2.1];exact hiz
    have ez:z0[i]? = some z0[i]:=by simp[hiz]
    obtain⟨tp,tq⟩:=((P0.same s2).same s3).2.2 i p _ _ hp (DR hiq) ez;have es:((z0.map λz=>if 1<(cV z1).count z.1 then z.2 else 0).take (i+1)).sum=((z0.map λz=>if 1<(cV z1).count z.1 then z.2 else 0).take i).sum+(if 1<(cV z1).count z0[i].1 then z0[i].2 else 0):=by
     rw[D7,Fd,DX,ez];simp
    rw[es];generalize ((z0.map λz=>if 1<(cV z1).count z.1 then z.2 else 0).take i).sum=S;generalize qs0[i]=q at tp tq;generalize z0[i]=z at tp tq;refine bu tp ?_;nofun;refine⟨o,rfl,.inr ⟨_,.inl (s3 _ _ to)⟩,?_⟩;nofun;refine⟨q,_,rfl,.inr ⟨Oe tq,?_⟩⟩;nofun;refine⟨_,DGet.t (s3 _ _ to) (k:=gc z.1) (by rw[lO];exact tq),?_⟩;rw[zQ hC];nofun;refine a9 (λg=>?_) (λg=>?_)
    ·rw[if_pos ⋯]
     nofun;rw[Int.add_assoc];exact⟨s3,_,_,_,rfl⟩
    ·rw[if_neg ⋯]
     nofun;rw[Lf];exact⟨s3,_,_,_,rfl⟩
   ·rintro σ H3 ⟨s3,st,v3,v4,rfl⟩
    rw[DW (by rw[DT,DT,P0.1];exact DY _)];exact⟨(s1.trans s2).trans s3,_,_,_,_,_,rfl⟩
  ·rintro σ H1 ⟨s1,st,v1,v2,v3,v4,rfl⟩
   rw[DW (by simp)];nofun;refine⟨aF (by simp),λt ht=>?_⟩;refine k t st _ (s1.new ht) ?_;rw[aj];unfold fI;rw[hN]
noncomputable def lP(rss:List (List Nat))(w b:Nat):Nat:=mL (bt rss w b)
noncomputable def ox(rss:List (List Nat)):Int:=uZ (eL (b6 rss rss.length))
def BgF(rss:List (List Nat))(w:Nat)(zss:List (List (List Int×Int))):Prop:=zss.length=(if rss=[]then 0 else w)+1/\∀(c:Nat) zs,zss[c]? = some zs->Bgn (bgs rss c) zs
def Rws(H:Hp)(l:Addr)(rss:List (List Nat))(w b:Nat):Prop:=(∃ps:List Addr,H l=some (.lst (ps.map Ou))/\RowsT H ps rss)/\uX rss w b/\rss.length<=200/\w<=200/\b<=64
theorem Rws.same{H H':Hp}{l:Addr}{rss:List (List Nat)}{w b:Nat}(h:Rws H l rss w b)(s:Same H H'):Rws H' l rss w b:=let⟨⟨ps,a,r⟩,x⟩:=h;⟨⟨ps,s _ _ a,r.same s⟩,x⟩
def Ce:Sp:=λvs H Q _=>∃(a:Addr) (rss:List (List Nat)) (w b:Nat),vs=[.ref a,.int b]/\Rws H a rss w b/\∀H',Same H H'->Q (.int (lP rss w b:Nat)) H'
theorem qZ{rss:List (List Nat)}{w:Nat}:∀r∈bt rss w b,r.length=b:=λr hr=>by
 unfold bt at hr;obtain⟨c,_,rfl⟩:=D4.mp hr;exact bF ..
theorem jS (T:Tx K mg t):FnOk P t.wd K mg base CX0 3 (t.f 32) (t.d 32) ["rows","base"] Ce:=by
 refine okT (N:=["rows","base"]) (T.fn 32 rfl) (λH Q hr nd h=>?_)
 ·obtain⟨a,rss,w,b,rfl,⟨⟨ps,ta,hR⟩,hG,hn,hw,hb⟩,k⟩:=h
  refine⟨_,(aq (ax (aR (eZ (K:=K)) (aI (gq T) hr (T.fn 12 rfl) (ai (aI (tV T) hr (T.fn 3 rfl) (ai (qv 0) (ai (qv 1) ae))) ae)) ao))),?_⟩;dsimp only[st0];nofun;refine⟨a,ps,rss,w,b,rfl,ta,hR,hG,hn,hw,hb,λl qs H1 hl _ _ s1 tl hQ=>?_⟩;nofun;refine⟨l,qs,bt rss w b,rfl,.inl ⟨tl,hQ⟩,by rw[dH];split<;>lia,λr hr=>by rw[qZ r hr];exact hb,λt l2 H2 hl2 ht s2 tt tl2=>?_⟩;nofun;exact k H2 (s1.trans s2)
theorem nj{α:Type}[BEq α][LawfulBEq α]:∀{xs ys:List α},xs.Nodup->(∀x∈xs,x∈ys)->xs.length<=ys.length
 | [],_,_,_=>Ec _
 | x::xs,ys,hn,h=>by
  rw[Fc]at hn;have hx:x∈ys:=h x (Es ..);have ih:=nj (xs:=xs) (ys:=ys.erase x) hn.2 λz hz=>(KC λe=>hn.1 (by rw[<-e];exact hz)).mpr (h z (En _ hz))
  rw[JE hx]at ih;have:=List.length_pos_of_mem hx;rw[Ej];lia
theorem xq{bs:List (List Int)}{zs:List (List Int×Int)}(h:Bgn bs zs):zs.length<=bs.length:=by
 have:=nj h.1 λr hr=>(h.2.1 r).mp hr
 rwa [DT]at this
def Cf:Sp:=λvs H Q _=>∃(a:Addr) (rss:List (List Nat)) (w b:Nat),vs=[.ref a,.int b]/\Rws H a rss w b/\∀zss H',BgF rss w zss->Same H H'->Q (.int (fI zss)) H'
theorem iJ (T:Tx K mg t):FnOk P t.wd K mg base CX0 3 (t.f 33) (t.d 33) ["rows","base"] Cf:=by
 refine okT (N:=["rows","base"]) (T.fn 33 rfl) (λH Q hr nd h=>?_)
 ·obtain⟨a,rss,w,b,rfl,⟨⟨ps,ta,hR⟩,hG,hn,hw,hb⟩,k⟩:=h
  refine⟨_,(aq (ax (aR (eZ (K:=K)) (aI (fV T) hr (T.fn 10 rfl) (ai (bj (N:=["column","rows"]) (tgs:=["column"]) (frs:=["rows"]) (ix:=[0]) ⟨rfl,by decide +kernel,rfl,by decide +kernel,rfl,rfl,⟨⟨rfl,rfl,_,rfl,rfl⟩,D3⟩,⟨rfl,D3⟩,rfl⟩ rfl (cR rfl T.bW (ai (aG cI (aI (cy T) hr (T.fn 2 rfl) (ai (qv 0) ae)) ao) ae)) (λ_ _ _ _=>(aE (i:=0))) (λ_ _ _ _=>(aI (jR T) hr (T.fn 4 rfl) (ai (qv 1) (ai (qv 0) ae))))) ae)) ao))),?_⟩;dsimp only[st0];nofun;have hpl:ps.length=rss.length:=hR.1;have hcols:∀p,ps[0]? = some p->∃zs,(H p=some (.lst zs)\/H p=some (.tup zs))/\zs.length=w:=λp hp=>by
   have h0:0<rss.length:=by rw[<-hpl];exact br hp
   have hl:=(hG rss[0] (D1 h0)).1;have e0:rss[0]? = some rss[0]:=by simp
   exact⟨_,.inr (hR.2 0 p _ hp e0),by rw[aC];exact hl⟩
  refine⟨a,ps,rss,w,rfl,ta,hpl,hcols,?_⟩;nofun;have hW:(if rss=[]then 0 else w)<=w:=by split<;>lia
  have hW2:∀r∈rss,r.length=(if rss=[]then 0 else w):=λr hr=>by rw[(hG r hr).1,if_neg (λz=>by rw[z]at hr;cases hr)]
  have hk:∀zss H',BgF rss w zss->Same H H'->Q (.int (fI zss)) H':=k
  unfold BgF at hk;generalize (if rss=[]then 0 else w)=W at hW hW2 hk;have eW:((W:Nat):Int)+1=((W+1:Nat):Int):=by lia
  rw[eW];refine⟨_,rfl,by lia,by lia,ju (n:=W+1) (λi ys σ H'=>Same H H'/\(∃(qs:List Addr) (zss:List (List (List Int×Int))),ys=qs.map Ou/\qs.length=i/\BegsAt H' qs zss/\∀(c:Nat) zs,zss[c]? = some zs->Bgn (bgs rss c) zs)/\∃v,σ=[v,some (Ou a)]) (au ⋯) (λi ys σ H' h=>by obtain⟨_,⟨qs,zss,rfl,e,_⟩,_⟩:=h;rw[DT,e]) ⟨Oi _,⟨[],[],rfl,rfl,⟨rfl,λi d zs h=>by simp at h⟩,λc zs h=>by simp at h⟩,none,rfl⟩ ?_ ?_⟩
  ·rintro c ys σ H1 hc ⟨s1,⟨qs,zss,rfl,hql,hB,hz⟩,v,rfl⟩
   rw[Hq];nofun;refine⟨a,ps,rss,c,W,rfl,s1 _ _ ta,hR.same s1,hW2,by lia,by lia,by lia,λd as qs' zs H2 hd s2 td hP hb'=>?_⟩;refine Ol hc ⟨s1.trans s2,⟨qs++[d],zss++[zs],by rw[D0];rfl,by simp[hql],⟨by simp[hB.1],λi d' z' e1 e2=>?_⟩,λc' z' e2=>?_⟩,_,rfl⟩
   ·rcases aX e1 with⟨l,e1⟩|⟨l,e1⟩
    ·rcases aX e2 with⟨_,e2⟩|⟨l',e2⟩
     ·exact(hB.same s2).2 i d' z' e1 e2
     ·have:=hB.1;lia
    ·rcases aX e2 with⟨l',e2⟩|⟨_,e2⟩
     ·have:=hB.1;lia
     ·rw[e1,e2];exact⟨as,qs',td,hP⟩
   ·rcases aX e2 with⟨_,e2⟩|⟨l',e2⟩
    ·exact hz c' z' e2
    ·have h1:=hB.1
     have:c'=c:=by lia
     rw[this,e2];exact hb'
  ·rintro ys σ H1 ⟨s1,⟨qs,zss,rfl,hql,hB,hz⟩,v,rfl⟩ l hl
   have s2:=s1.new (o:=.lst (qs.map Ou)) hl;have hB2:=hB.same ((Oi H1).new (o:=.lst (qs.map Ou)) hl);have tl:(upd H1 l (.lst (qs.map Ou))) l=some (.lst (qs.map Ou)):=aj;generalize upd H1 l (.lst (qs.map Ou))=H2 at s2 hB2 tl;have hzl:zss.length=W+1:=by rw[<-hB.1];exact hql
   nofun;refine⟨l,qs,zss,rfl,tl,hB2,by lia,by lia,λzs hzs=>?_,λt n H3 s3 tt=>?_⟩
   ·obtain⟨c,hc,e⟩:=IB hzs
    have hb':=hz c zs (by rw[DR hc,e]);refine⟨ET (xq hb') (by unfold bgs;rw[DT];exact hn),λz hz'=>?_⟩;have hm:=(hb'.2.1 z.1).mp (D4.mpr ⟨z,hz',rfl⟩);unfold bgs at hm;obtain⟨r,hr,er⟩:=D4.mp hm;rw[<-er];unfold bH;rw[DT,Ee];have:=hW2 r hr;lia
   ·nofun
    exact hk zss H3 ⟨hzl,hz⟩ (s2.trans s3)
def Cg:Sp:=λvs H Q _=>∃(a:Addr) (rss:List (List Nat)) (w b:Nat),vs=[.ref a,.int b]/\Rws H a rss w b/\∀H',Same H H'->Q (.int (ox rss)) H'
theorem jT (T:Tx K mg t):FnOk P t.wd K mg base CX0 3 (t.f 34) (t.d 34) ["rows","base"] Cg:=by
 refine okT (N:=["rows","base"]) (T.fn 34 rfl) (λH Q hr nd h=>?_)
 ·obtain⟨a,rss,w,b,rfl,⟨⟨ps,ta,hR⟩,hG,hn,hw,hb⟩,k⟩:=h
  refine⟨_,(aq (ax (aR (eZ (K:=K)) (aI (dC T) hr (T.fn 21 rfl) (ai (aI (qV T) hr (T.fn 17 rfl) (ai (qv 0) ae)) ae)) ao))),?_⟩;dsimp only[st0];nofun;refine⟨a,ps,rss,rfl,ta,hR,hn,λl H1 hl s1 tl=>?_⟩;nofun;refine⟨l,_,rfl,.inl tl,ET (ie _ _) ⋯,λt st qs H2 hst s2 tt _ _=>?_⟩;nofun;exact k H2 (s1.trans s2)
def zS(K:DU)(t:Ad):V->Sp->Prop:=λv sp=>(v=.ref (t.f 32)/\sp=Ce)\/(v=.ref (t.f 33)/\sp=Cf)\/(v=.ref (t.f 34)/\sp=Cg)
def MvL (H:Hp) (l:Addr) (n1 n2 n3:Int):Prop:=∃t1 t2 t3:Addr,H l=some (.lst [.ref t1,.ref t2,.ref t3])/\H t1=some (.tup [.str "last",.int n1])/\H t2=some (.tup [.str "first",.int n2])/\H t3=some (.tup [.str "runs",.int n3])
inductive Kd
 | nu (ns:List Int)
 | pa (tb:List (Int×Nat))
 | te (zs:List Str)
noncomputable def Kd.name:Kd->Str
 | .nu _=>"number"
 | .pa _=>"part"
 | .te _=>"text"
noncomputable def Kd.len:Kd->Nat
 | .nu ns=>ns.length
 | .pa tb=>tb.length
 | .te zs=>zs.length
noncomputable def Kd.ok:Kd->Prop
 | .nu ns=>ns.length<=200/\∀x∈ns,-(10 ^ 18)<x/\x<10 ^ 18
 | .pa tb=>tb.length<=200/\(∀z∈tb,1<=z.2/\z.2<=60)/\∀z∈tb,-(10 ^ 18)<z.1/\z.1<10 ^ 18
 | .te zs=>zs.length<=200/\∀z∈zs,Ltr 30 z
noncomputable def KAt(H:Hp):Kd->List V->Prop
 | .nu ns,vs=>vs=ns.map Of
 | .pa tb,vs=>∃qs:List Addr,vs=qs.map Ou/\PartsT H qs tb
 | .te zs,vs=>vs=zs.map Oh
theorem KAt.same{H H':Hp}{k:Kd}{vs:List V}(h:KAt H k vs)(s:Same H H'):KAt H' k vs:=by
 cases k with
 | nu ns=>exact h
 | pa tb=>obtain⟨qs,e,p⟩:=h;exact⟨qs,e,p.same s⟩
 | te zs=>exact h
theorem KAt.len{H:Hp}{k:Kd}{vs:List V}(h:KAt H k vs):vs.length=k.len:=by
 cases k with
 | nu ns=>cases h;exact DT ..
 | pa tb=>obtain⟨qs,rfl,p⟩:=h;rw[DT];exact p.1
 | te zs=>cases h;exact DT ..
theorem Kd.ok.le{k:Kd}(h:k.ok):k.len<=200:=by cases k<;>exact h.1
noncomputable def dgN(n b m:Nat):List Nat:=(DZ m).map λj=>n / b ^ (m - 1 - j) % b
theorem xr(n b m:Nat):(dgN n b m).length=m:=by simp[dgN]
theorem q9(n b m:Nat):bH (dgN n b m)=dg n b m:=by
 unfold bH dgN dg;rw[ED];rfl
theorem zT(hb:2<=b):∀x∈dgN n b m,x<b:=λx hx=>by
 unfold dgN at hx;obtain⟨j,_,rfl⟩:=D4.mp hx;exact Jr _ ⋯
noncomputable def trN(m:Nat)(z:Str):List Nat:=z.cps.toList.map (λc=>c - 96)++Ef (m - z.length) 0
theorem u0(h:Ltr 30 z):bH (trN m z)=tZ m z:=by
 unfold bH trN tZ;rw[D0,ED,F9];congr 1;apply Eo;intro c hc;have:=h.2 c hc;show((c - 96:Nat):Int)=(c:Int) - 96
 lia
theorem xt(h:z.length<=m):(trN m z).length=m:=by
 unfold trN;rw[D8,DT,Fz];have e:z.cps.toList.length=z.length:=by simp[Jo]
 lia
theorem zU(h:Ltr 30 z):∀x∈trN m z,x<27:=λx hx=>by
 unfold trN at hx;rcases Et.mp hx with hx|hx
 ·obtain⟨c,hc,rfl⟩:=D4.mp hx
  have:=h.2 c hc;lia
 ·have:=GB hx
  lia
def zV(ns:List Int)(b:Nat)(rss:List (List Nat))(w:Nat):Prop:=∃zs,Spelt ns b zs w/\rss=zs.map λz=>dgN z b w
noncomputable def Kd.rows(b:Nat)(rss:List (List Nat))(w by':Nat):Kd->Prop
 | .nu ns=>zV ns b rss w/\by'=b
 | .pa tb=>zV (bP tb) b rss w/\by'=b
 | .te zs=>(xm zs w/\w<=30/\rss=zs.map (trN w))/\by'=27
theorem nk{H:Hp}(h:RowsAt H ps b m zs):RowsT H ps (zs.map λz=>dgN z b m):=by
 refine⟨by rw[DT];exact h.1,λi p r e1 e2=>?_⟩;obtain⟨z,hz,rfl⟩:=map_some e2;rw[d7,q9];exact h.2 i p z e1 hz
theorem rb{H:Hp}{zs:List Str}(h:TRows H ps zs m)(hL:∀z∈zs,Ltr 30 z):RowsT H ps (zs.map (trN m)):=by
 refine⟨by rw[DT];exact h.1,λi p r e1 e2=>?_⟩;obtain⟨z,hz,rfl⟩:=map_some e2;rw[d7,u0 (hL z (Ew hz))];exact h.2 i p z e1 hz
theorem kK{ns:List Int}{rss:List (List Nat)}{w:Nat}(h:zV ns b rss w)(hb:2<=b):uX rss w b/\rss.length=ns.length/\w<=200:=by
 obtain⟨zs,hS,rfl⟩:=h;refine⟨λr hr=>?_,by rw[DT];exact hS.len,by have:=hS.few;lia⟩;obtain⟨z,_,rfl⟩:=D4.mp hr;exact⟨xr ..,zT hb⟩
theorem Kd.rows.good{k:Kd}{rss:List (List Nat)}{w:Nat}(h:k.rows b rss w by')(hk:k.ok)(hb:2<=b)(hb2:b<=64):uX rss w by'/\rss.length=k.len/\w<=200/\by'<=64:=by
 cases k with
 | nu ns=>obtain⟨h,rfl⟩:=h;obtain⟨a,c,d⟩:=kK h hb;exact⟨a,c,d,hb2⟩
 | pa tb=>obtain⟨h,rfl⟩:=h;obtain⟨a,c,d⟩:=kK h hb;exact⟨a,c.trans (bK tb),d,hb2⟩
 | te zs=>
  obtain⟨⟨hM,hm,rfl⟩,rfl⟩:=h;refine⟨λr hr=>?_,DT ..,by lia,by decide⟩;obtain⟨z,hz,rfl⟩:=D4.mp hr;exact⟨xt (hM.1 z hz),zU (hk.2 z hz)⟩
def Hand(H:Hp)(k:Kd)(a:Addr)(us:List V):Prop:=((H a=some (.lst us)\/H a=some (.tup us))/\KAt H k us)\/∃(tb:List (Int×Nat)) (qs:List Addr),k=.pa tb/\us=qs.map Ou/\H a=some (.lst us)/\PartsL H qs tb
theorem Hand.nu{H:Hp}{ns:List Int}{a:Addr}{us:List V}(h:Hand H (.nu ns) a us):(H a=some (.lst us)\/H a=some (.tup us))/\KAt H (.nu ns) us:=h.elim id λ⟨_,_,e,_⟩=>by cases e
theorem Hand.te{H:Hp}{zs:List Str}{a:Addr}{us:List V}(h:Hand H (.te zs) a us):(H a=some (.lst us)\/H a=some (.tup us))/\KAt H (.te zs) us:=h.elim id λ⟨_,_,e,_⟩=>by cases e
theorem Hand.pa{H:Hp}{tb:List (Int×Nat)}(h:Hand H (.pa tb) a us)(K:DU):∃qs:List Addr,us=qs.map Ou/\HdP K H a qs tb:=by
 rcases h with⟨h,qs,rfl,hP⟩|⟨tb',qs,e,rfl,h,hP⟩
 ·exact⟨qs,rfl,h.elim (λh=>.inl ⟨Od h,hP⟩) λh=>.inr (.inl ⟨Oe h,hP⟩)⟩
 ·cases e
  exact⟨qs,rfl,.inr (.inr ⟨Od h,hP⟩)⟩
theorem Hand.len{H:Hp}{k:Kd}{a:Addr}{us:List V}(h:Hand H k a us):us.length=k.len:=by
 rcases h with⟨_,h⟩|⟨tb,qs,rfl,rfl,_,hP⟩
 ·exact h.len
 ·rw[DT];exact hP.1
theorem Hand.same{H H':Hp}{k:Kd}{a:Addr}{us:List V}(h:Hand H k a us)(s:Same H H'):Hand H' k a us:=by
 rcases h with⟨e,h⟩|⟨tb,qs,e1,e2,e3,hP⟩
 ·exact .inl ⟨e.elim (λe=>.inl (s _ _ e)) (λe=>.inr (s _ _ e)),h.same s⟩
 ·exact .inr ⟨tb,qs,e1,e2,s _ _ e3,hP.same s⟩
theorem Hand.seq{H:Hp}{k:Kd}(h:Hand H k a us):H a=some (.lst us)\/H a=some (.tup us):=by
 rcases h with⟨e,_⟩|⟨tb,qs,_,_,e,_⟩
 ·exact e
 ·exact .inl e
def zW(K:DU):Sp:=λvs H Q _=>∃(k:Kd) (us:List V) (a:Addr) (b:Nat),vs=[.str k.name,.ref a,.int b]/\Hand H k a us/\k.ok/\2<=b/\b<=64/\
 ∀(t l:Addr) (ps:List Addr) (rss:List (List Nat)) (w by':Nat) H',Same H H'->H' t=some (.tup [.int by',.ref l])->H' l=some (.lst (ps.map Ou))->RowsT H' ps rss->k.rows b rss w by'->Q (.ref t) H'
theorem kL{K:DU}{H:Hp}(h:H a=some (.lst us)\/H a=some (.tup us)):SqL K H a us\/SqT K H a us:=h.elim (λh=>.inl (Od h)) λh=>.inr (Oe h)
theorem jb (T:Tx K mg t):FnOk P t.wd K mg base CX0 4 (t.f 31) (t.d 31) ["kind","keys","base"] (zW K):=by
 refine okT (N:=["kind","keys","base"]) (T.fn 31 rfl) (λH Q hr nd h=>?_)
 ·obtain⟨k,us,a,b,rfl,hH,hk,hb,hb2,q⟩:=h
  refine⟨_,(af (aV (aD dD (qv 0) bE (az _)) (aq (ax (ba (ai (jL (v:=.int 27) rfl T.lV ⟨_,rfl⟩) (ai (aI (kJ T) hr (T.fn 30 rfl) (ai (qv 1) ae)) ae))))) aK)
   (af (aV (aD dD (qv 0) bE (az _)) (aq (ax (ba (ai (qv 2) (ai (aI (eC T) hr (T.fn 28 rfl) (ai (aI (gs T) hr (T.fn 27 rfl) (ai (qv 1) ae)) (ai (qv 2) ae))) ae))))) aK)
   (aq (ax (ba (ai (qv 2) (ai (aI (eC T) hr (T.fn 28 rfl) (ai (qv 1) (ai (qv 2) ae))) ae))))))),?_⟩
  dsimp only[st0];cases k with
  | nu ns=>
   obtain⟨ta,hA⟩:=hH.nu;obtain rfl:us=ns.map Of:=hA;nofun;refine bX (show ¬Oh (Ey "number")=Oh (Ey "text")by decide) ?_;nofun;refine bX (show ¬Oh (Ey "number")=Oh (Ey "part")by decide) ?_;nofun;refine⟨a,ns,b,rfl,kL ta,hb,hb2,⟨by have:=hk.1;lia,λx hx=>by have:=hk.2 x hx;lia⟩,λl ps zs m H' hl sm tl hR hS=>?_⟩;nofun;exact⟨aF (by simp),λt ht=>q t l ps _ m b _ (sm.new ht) aj (by rw[aB (ay tl ht)];exact tl) (nk (hR.same ((Oi _).new ht))) ⟨⟨zs,hS,rfl⟩,rfl⟩⟩
  | pa tb=>
   obtain⟨qs,rfl,hP⟩:=hH.pa K;nofun;refine bX (show ¬Oh (Ey "part")=Oh (Ey "text")by decide) ?_;nofun;refine cN rfl ?_;nofun;refine⟨a,qs,tb,rfl,by have:=hk.1;lia,hk.2.1,hk.2.2,hP,λl0 hl0=>?_⟩;obtain⟨H0,e9,sm0,t0⟩:=nwR hl0 (.lst ((bP tb).map Of));rw[e9];nofun;refine⟨l0,bP tb,b,rfl,.inl (Od t0),hb,hb2,⟨by rw[bK];have:=hk.1;lia,pT hk.2.1 hk.2.2⟩,λl ps zs m H' hl sm tl hR hS=>?_⟩;nofun;exact⟨aF (by simp),λt ht=>q t l ps _ m b _ ((sm0.trans sm).new ht) aj (by rw[aB (ay tl ht)];exact tl) (nk (hR.same ((Oi _).new ht))) ⟨⟨zs,hS,rfl⟩,rfl⟩⟩
  | te zs=>
   obtain⟨ta,hA⟩:=hH.te;obtain rfl:us=zs.map Oh:=hA;nofun;refine cN rfl ?_;nofun;refine⟨a,zs,rfl,kL ta,by have:=hk.1;lia,hk.2,λl ps m H' hl sm tl hR hM hm=>?_⟩;nofun;exact⟨aF (by simp),λt ht=>q t l ps _ m 27 _ (sm.new ht) aj (by rw[aB (ay tl ht)];exact tl) (rb (hR.same ((Oi _).new ht)) hk.2) ⟨⟨hM,hm,rfl⟩,rfl⟩⟩
def Ci(k:Kd)(b:Nat)(n1 n2 n3:Int):Prop:=∃(rss:List (List Nat)) (w by':Nat) (zss:List (List (List Int×Int))),k.rows b rss w by'/\BgF rss w zss/\n1=(lP rss w by':Nat)/\n2=fI zss/\n3=ox rss
def DE(K:DU):Sp:=λvs H Q _=>∃(k:Kd) (us:List V) (a:Addr) (b:Nat),vs=[.str k.name,.ref a,.int b]/\(H a=some (.lst us)\/H a=some (.tup us))/\KAt H k us/\k.ok/\2<=b/\b<=64/\
 ∀(l:Addr) (n1 n2 n3:Int) H',H l=none->Same H H'->MvL H' l n1 n2 n3->Ci k b n1 n2 n3->Q (.ref l) H'
theorem iK (T:Tx K mg t):FnOk P t.wd K mg base CX0 5 (t.f 38) (t.d 38) ["kind","keys","base"] (DE K):=by
 refine okT (N:=["kind","keys","base","by","rows","told","way","ahead"]) (T.fn 38 rfl) (λH Q hr nd h=>?_)
 ·obtain⟨k,us,a,b,rfl,ta,hA,hk,hb,hb2,q⟩:=h
  refine⟨_,(af (da (aI (jb T) hr (T.fn 31 rfl) (ai (qv 0) (ai (qv 1) (ai (qv 2) ae)))) (bM (K:=K) (n:=2) rfl (av (aE (i:=3)) (av (aE (i:=4)) aY))))
   (af (aJ (i:=5) (bo ae))
   (af (cf Em rfl (iQ (K:=K) (jL (v:=.ref t.gf) rfl T.Ah rfl)) (aE (i:=6)) (af (aJ (i:=7) (aR (zD T.rn) (jL (v:=.ref t.fW) rfl T.xG rfl) (qv 6)))
   (aq (bN (bL (K:=K) (qv 5) (ai (ba (ai (qv 6) (ai (m4 (R:=zS K t) (qv 7) (λv sp h=>by
     rcases h with⟨rfl,rfl⟩|⟨rfl,rfl⟩|⟨rfl,rfl⟩
     ·exact⟨_,_,_,_,_,rfl,jS T,hr.mono (by decide),(T.fn 32 rfl).2.1.kp,(T.fn 32 rfl).2.2,jk⟩
     ·exact⟨_,_,_,_,_,rfl,iJ T,hr.mono (by decide),(T.fn 33 rfl).2.1.kp,(T.fn 33 rfl).2.2,jk⟩
     ·exact⟨_,_,_,_,_,rfl,jT T,hr.mono (by decide),(T.fn 34 rfl).2.1.kp,(T.fn 34 rfl).2.2,jk⟩) (ai (qv 4) (ai (qv 3) ae))) ae))) ae))))))
   (aq (ax (qv 5)))))),?_⟩
  dsimp only[st0];nofun;refine⟨k,us,a,b,rfl,.inl ⟨ta,hA⟩,hk,hb,hb2,λp0 l ps rss w by' H1 s1 tt tl hR hr=>?_⟩;obtain⟨hG,hrl,hw,hby⟩:=hr.good hk hb hb2;have hrn:rss.length<=200:=by rw[hrl];exact hk.le
  refine bu tt ?_;nofun;refine⟨aF (by simp),λo ho=>?_⟩;have hW:Rws H1 l rss w by':=⟨⟨ps,tl,hR⟩,hG,hrn,hw,hby⟩;have s2:=s1.new (o:=.lst []) ho;have hW:=hW.same ((Oi H1).new (o:=.lst []) ho);have hon:H o=none:=s1.free ho;have hlo:l≠o:=ay tl ho;have to:(upd H1 o (.lst [])) o=some (.lst (([]:List Addr).map Ou)):=aj;generalize upd H1 o (.lst [])=H2 at s2 hW to;nofun;refine⟨t.gf,rfl,⟨_,T.nz _⟩,oT (a:=t.gf) (xs:=[.str "last",.str "first",.str "runs"]) (λi σ H'=>Same H H'/\Rws H' l rss w by'/\(∃(ts:List Addr),H' o=some (.lst (ts.map Ou))/\ts.length=i/\(∀t1,ts[0]? = some t1->H' t1=some (.tup [.str "last",.int (lP rss w by':Nat)]))/\(∀t2,ts[1]? = some t2->∃zss,BgF rss w zss/\H' t2=some (.tup [.str "first",.int (fI zss)]))/\(∀t3,ts[2]? = some t3->H' t3=some (.tup [.str "runs",.int (ox rss)])))/\∃v1 v2,σ=[some (Oh k.name),some (Ou a),some (Of b),some (Of by'),some (Ou l),some (Ou o),v1,v2]) ⟨s2,hW,⟨[],to,rfl,λ_ h=>by simp at h,λ_ h=>by simp at h,λ_ h=>by simp at h⟩,_,_,rfl⟩ (λi σ H' _ _=>T.nz _) ?_ ?_⟩
  ·rintro i x σ H3 hx ⟨s3,hW3,⟨ts,to3,hts,h1,h2,h3⟩,v1,v2,rfl⟩
   have put:∀(x:V) (H4:Hp) (D:Ends),Same H3 H4->True:=λ_ _ _ _=>trivial
   have wrest:∀(H4 H5:Hp) (xs:List V),Same H3 H4->(∀c u,c≠o->H4 c=some u->H5 c=some u)->Rws H5 l rss w by':=λH4 H5 xs s4 k=>by
    obtain⟨⟨ps',a1,a2⟩,a3⟩:=hW3.same s4;have to4:=s4 _ _ to3;exact⟨⟨ps',k _ _ hlo a1,a2.1,λi p r e1 e2=>k _ _ (iC (a2.2 i p r e1 e2) to4 (by intro c;cases c)) (a2.2 i p r e1 e2)⟩,a3⟩
   match i,hx with
   | 0,hx=>
    cases hx;nofun;refine⟨_,_,rfl,rfl,rfl,?_⟩;nofun;refine⟨bq to3,?_⟩;nofun;refine⟨Ce,.inl ⟨rfl,rfl⟩,?_⟩;nofun;refine⟨l,rss,w,by',rfl,hW3,λH4 s4=>?_⟩;nofun;refine⟨aF (by simp),λq1 hq1=>?_⟩;obtain⟨H5,e9,s5,tq⟩:=nwS s4 hq1 (.tup [.str "last",.int (lP rss w by':Nat)]);rw[e9];nofun;have to5:=s5 _ _ to3;refine aZ to5 (by rw[DT,hts];decide) ?_;have hne:q1≠o:=λz=>by rw[z,to5]at tq;cases tq
    have hk:∀c u ys,c≠o->H5 c=some u->(upd H5 o ys) c=some u:=λc u ys hc e=>by rw[aB hc];exact e
    obtain rfl:=Fi.mp hts;exact⟨(s3.trans s5).own hon,wrest H5 _ [] s5 λc u hc e=>hk c u _ hc e,⟨[q1],aj,rfl,λt1 e=>by cases e;exact hk _ _ _ hne tq,λ_ h=>by simp at h,λ_ h=>by simp at h⟩,_,_,rfl⟩
   | 1,hx=>
    cases hx;nofun;refine⟨_,_,rfl,rfl,rfl,?_⟩;nofun;refine⟨bq to3,?_⟩;nofun;refine⟨Cf,.inr (.inl ⟨rfl,rfl⟩),?_⟩;nofun;refine⟨l,rss,w,by',rfl,hW3,λzss H4 hz s4=>?_⟩;nofun;refine⟨aF (by simp),λq1 hq1=>?_⟩;obtain⟨H5,e9,s5,tq⟩:=nwS s4 hq1 (.tup [.str "first",.int (fI zss)]);rw[e9];nofun;have to5:=s5 _ _ to3;refine aZ to5 (by rw[DT,hts];decide) ?_;have hne:q1≠o:=λz=>by rw[z,to5]at tq;cases tq
    have hk:∀c u ys,c≠o->H5 c=some u->(upd H5 o ys) c=some u:=λc u ys hc e=>by rw[aB hc];exact e
    match ts,hts with
    | [t1],_=>
     exact⟨(s3.trans s5).own hon,wrest H5 _ [] s5 λc u hc e=>hk c u _ hc e,⟨[t1,q1],aj,rfl,λt1 e=>by cases e;exact hk _ _ _ (iC (h1 _ rfl) to3 (by intro c;cases c)) (s5 _ _ (h1 _ rfl)),λt2 e=>by cases e;exact⟨zss,hz,hk _ _ _ hne tq⟩,λ_ h=>by simp at h⟩,_,_,rfl⟩
   | 2,hx=>
    cases hx;nofun;refine⟨_,_,rfl,rfl,rfl,?_⟩;nofun;refine⟨bq to3,?_⟩;nofun;refine⟨Cg,.inr (.inr ⟨rfl,rfl⟩),?_⟩;nofun;refine⟨l,rss,w,by',rfl,hW3,λH4 s4=>?_⟩;nofun;refine⟨aF (by simp),λq1 hq1=>?_⟩;obtain⟨H5,e9,s5,tq⟩:=nwS s4 hq1 (.tup [.str "runs",.int (ox rss)]);rw[e9];nofun;have to5:=s5 _ _ to3;refine aZ to5 (by rw[DT,hts];decide) ?_;have hne:q1≠o:=λz=>by rw[z,to5]at tq;cases tq
    have hk:∀c u ys,c≠o->H5 c=some u->(upd H5 o ys) c=some u:=λc u ys hc e=>by rw[aB hc];exact e
    match ts,hts with
    | [t1,t2],_=>
     exact⟨(s3.trans s5).own hon,wrest H5 _ [] s5 λc u hc e=>hk c u _ hc e,⟨[t1,t2,q1],aj,rfl,λt1 e=>by cases e;exact hk _ _ _ (iC (h1 _ rfl) to3 (by intro c;cases c)) (s5 _ _ (h1 _ rfl)),λt2 e=>by
      cases e;obtain⟨zss,hz,e2⟩:=h2 _ rfl;exact⟨zss,hz,hk _ _ _ (iC e2 to3 (by intro c;cases c)) (s5 _ _ e2)⟩,λt3 e=>by cases e;exact hk _ _ _ hne tq⟩,_,_,rfl⟩
   | i+3,hx=>simp at hx
  ·rintro σ H3 ⟨s3,hW3,⟨ts,to3,hts,h1,h2,h3⟩,v1,v2,rfl⟩
   nofun
   match ts,hts with
   | [t1,t2,t3],_=>
    obtain⟨zss,hz,e2⟩:=h2 t2 rfl;exact q o _ _ _ H3 hon s3 ⟨t1,t2,t3,to3,h1 t1 rfl,e2,h3 t3 rfl⟩ ⟨rss,w,by',zss,hr,hz,rfl,rfl,rfl⟩
def t5:Sp:=λvs H Q _=>∃(a:Addr) (cs:List Nat),vs=[.ref a]/\(H a=some (.lst (NV cs))/\True)/\cs.length<=64/\∀(l:Addr) H',H l=none->Same H H'->H' l=some (.lst (NV (sQ cs)))->Q (.ref l) H'
theorem kM (T:Tx K mg t):FnOk P t.wd K mg base CX0 1 (t.f 1) (t.d 1) ["counts"] t5:=by
 refine okT (N:=["counts","lesser","so_far","many"]) (T.fn 1 rfl) (λH Q hr nd h=>?_)
 ·obtain⟨a,cs,rfl,ta,hcl,k⟩:=h
  obtain⟨ta,_⟩:=ta
  ·refine⟨_,(af (aJ (i:=1) (bo ae))
   (af (aJ (i:=2) ao)
   (af (cf Em rfl (aS (K:=K) (qv 0)) (aE (i:=3)) (af (bN (bL (K:=K) (qv 1) (ai (qv 2) ae)))
   (aq (f9 (i:=2) nd rfl (Fh rfl) (qv 3) iR))))
   (aq (ax (qv 1)))))),?_⟩
   dsimp only[st0];nofun;refine⟨aF (by simp),λl hl=>?_⟩;obtain⟨H1,e9,s1,(t1:H1 l=some (.lst (NV ((sQ cs).take 0))))⟩:=nwR hl (.lst []);rw[e9];nofun;refine⟨a,rfl,⟨_,Od (s1 _ _ ta)⟩,cF (a:=a) (xs:=NV cs) (λi σ H'=>Same H H'/\H' l=some (.lst (NV ((sQ cs).take i)))/\∃v,σ=[some (Ou a),some (Ou l),some (Of ((cs.take i).sum:Nat)),v]) ⟨s1,t1,none,rfl⟩ (λi σ H' _ h=>Od (h.1 _ _ ta)) ?_ ?_⟩
   ·rintro i x σ H2 hx ⟨s2,t2,v,rfl⟩
    obtain⟨o,rfl,ho,hom,hi⟩:=aH hx;nofun;refine⟨bq t2,?_⟩;nofun;refine aZ t2 (by rw[aC,Ee,gy];exact au ⋯) ?_;rw[bU,<-p8 hi];have e:(((cs.take i).sum:Nat):Int)+(o:Int)=((cs.take (i+1)).sum:Nat):=by rw[D7,ho,Fd];simp
    nofun;exact⟨s2.own hl,aj,some (Of (o:Nat)),by rw[<-e];rfl⟩
   ·rintro σ H2 ⟨s2,t2,v,rfl⟩
    rw[DW (by rw[aC,gy];exact DY _)]at t2;nofun;exact k l H2 hl s2 t2
def Cj:Sp:=λvs H Q _=>∃(a:Addr) (os:List Nat) (b:Nat),vs=[.ref a,.int b]/\H a=some (.lst (NV os))/\(∀o∈os,o<b)/\os.length<=200/\b<=64/\∀(l:Addr) (ob:List Nat) H',H l=none->Same H H'->H' l=some (.lst (NV ob))->ByF os ob->Q (.ref l) H'
theorem getD_some{os:List Nat}{o:Nat}(h:os[i]? = some o):os.getD i 0=o:=by rw[DS,h];rfl
theorem cY (T:Tx K mg t):FnOk P t.wd K mg base CX0 2 (t.f 6) (t.d 6) ["row","base"] Cj:=by
 refine okT (N:=["row","base","marks","order","place","figure"]) (T.fn 6 rfl) (λH Q hr nd h=>?_)
 ·obtain⟨a,os,b,rfl,ta,hob,hol,hb,k⟩:=h
  refine⟨_,(af (aJ (i:=2) (aI (kM T) hr (T.fn 1 rfl) (ai (aI (fH T) hr (T.fn 0 rfl) (ai (qv 0) (ai (qv 1) ae))) ae)))
   (af (aJ (i:=3) (aG sq (bo (ai ao ae)) (ag (aU (K:=K)) (by rfl) T.bA aO (ai (qv 0) ae))))
   (af (cf Em rfl (gW (K:=K) rfl T.cE (ai (qv 0) ae)) (bM (K:=K) (n:=2) rfl (av (aE (i:=4)) (av (aE (i:=5)) aY))) (af (f7 (qv 4) (qv 3) (aR (bx (K:=K)) (qv 2) (qv 5)))
   (aq (mJ (K:=K) (qv 2) (qv 5) ao))))
   (aq (ax (qv 3)))))),?_⟩
  dsimp only[st0];nofun;refine⟨a,os,b,rfl,⟨ta,trivial⟩,hob,by lia,hb,λc H1 hc0 s1 tc=>?_⟩;nofun;refine⟨c,cnt os b,rfl,⟨tc,trivial⟩,by rw[bF];exact hb,λm H2 hm0 s2 tm=>?_⟩;have hmn:H m=none:=s1.free hm0;have s12:=s1.trans s2;nofun;refine⟨aF (by simp),λq0 hq0=>?_⟩;obtain⟨H3,e9,s3,e8,t0⟩:=nwD s12 hq0 (.lst [Of 0]);rw[e9];have tm3:=e8 _ _ tm;nofun;refine aL (Od (s3 _ _ ta)) ?_;rw[aC];refine⟨q0,_,_,rfl,rfl,t0,by lia,by lia,aF (by simp;lia),λd hd=>?_⟩;have efl:(Ef ((os.length:Nat):Int).toNat [Of 0]).flatten=NV (Ef os.length 0):=by
   show(Ef os.length [Of 0]).flatten=_
   rw[GC,NV,F9];rfl
  rw[efl];have hdn:H d=none:=s3.free hd;have hmd:m≠d:=ay tm3 hd;obtain⟨H4,e9,s4,e8,td⟩:=nwD s3 hd (.lst (NV (Ef os.length 0)));rw[e9];have tm4:=e8 _ _ tm3;nofun;refine⟨a,rfl,⟨_,Od (s4 _ _ ta)⟩,eF (n:=os.length) (λi σ H'=>Same H H'/\(∃ms ds:List Nat,H' m=some (.lst (NV ms))/\H' d=some (.lst (NV ds))/\ms.length=b/\ds.length=os.length/\(∀f,f<b->ms[f]? = some (bC os f+(os.take i).count f))/\∀j,j<i->ds[ef os j]? = some j)/\∃v w,σ=[some (Ou a),some (Of b),some (Ou m),some (Ou d),v,w]) ⟨s4,⟨_,_,tm4,td,by rw[gy,bF],by simp,λf hf=>?_,λj h=>absurd h (Mh _)⟩,none,none,rfl⟩ ?_ ?_ ?_ ?_⟩
  ·rw[gz (by rw[bF];exact hf),cj os b f ⋯];rfl
  ·rintro i σ H5 hi ⟨s5,_⟩
   exact⟨_,_,Od (s5 _ _ ta),fe (o:=os[i]) (by simp[hi])⟩
  ·rintro σ H5 ⟨s5,_⟩
   exact⟨_,Od (s5 _ _ ta),by rw[aC]⟩
  ·rintro i x σ H5 H6 hi ⟨s5,⟨ms,ds,tm5,td5,hml,hdl,hms,hds⟩,v,w,rfl⟩ ⟨q,x1,rfl,hq,rfl,hx1⟩
   have ei:os[i]? = some os[i]:=by simp[hi]
   have hx2:=hx1 _ (Od (s5 _ _ ta));rw[fe ei]at hx2;obtain rfl:=Er hx2;have hfb:=hob os[i] (D1 hi);have eg:=getD_some ei;have esp:ef os i=bC os os[i]+(os.take i).count os[i]:=by unfold ef;rw[eg]
   have hsl:=lx hi;have hcs:=cT hi;rw[eg]at hcs;generalize os[i]=f at *;refine bu aj ?_;dsimp only[E7];obtain⟨H6,e9,s6,e8,_⟩:=nwD s5 hq (.tup [Of (i:Nat),Of (f:Nat)]);rw[e9];have tm6:=e8 _ _ tm5;have td6:=e8 _ _ td5;nofun;refine bJ (Od tm6) (gm rfl (hms f hfb)) ?_;rw[<-esp];nofun;refine gJ td6 (iT rfl (by rw[aC,hdl];exact hsl)) ?_;rw[mH];obtain⟨H7,e9,s7,td7,e8⟩:=owS s6 hdn (.lst (NV (ds.set (ef os i) i)));rw[e9];have tm7:=e8 _ _ hmd tm6;nofun;refine⟨m,_,_,_,rfl,rfl,Od tm7,by lia,fe (hms f hfb),?_⟩;nofun;refine⟨_,_,rfl,rfl,?_⟩;refine gJ tm7 (iT rfl (by rw[aC,hml];exact hfb)) ?_;refine⟨s7.own hmn,⟨ms.set f (bC os f+(os.take i).count f+1),ds.set (ef os i) i,?_,by rw[aB (E5 hmd)];exact td7,by simpa using hml,by simpa using hdl,λg hg=>?_,λj hj=>?_⟩,_,_,rfl⟩
   ·rw[aj]
    show some (HO.lst ((NV ms).set f (Of ((bC os f+(os.take i).count f+1:Nat):Int))))=_
    rw[mH]
   ·rw[Hy]
    by_cases e:f=g
    ·subst e
     rw[if_pos rfl,if_pos ⋯,hcs];rfl
    ·rw[if_neg e,hms g hg,D7,ei,FZ]
     have:Ma g [f]=0:=FB.mpr (by simp;exact λz=>e z.symm);simp only[KJ,this,Hm]
   ·rw[Hy]
    by_cases e:ef os i=ef os j
    ·have hij:=mK hi ⋯ e
     rw[if_pos e,if_pos ⋯,hij]
    ·rw[if_neg e]
     have:j≠i:=λz=>e (by rw[z])
     exact hds j ⋯
  ·rintro σ H5 ⟨s5,⟨ms,ds,tm5,td5,hml,hdl,hms,hds⟩,v,w,rfl⟩
   nofun;exact k d ds H5 hdn s5 td5 ⟨hdl,hds⟩
def OrdR(rss:List (List Nat))(os:List Nat):Prop:=os.Perm (DZ rss.length)/\os.Pairwise (Rk rss 0)
def StepsL(n:Nat)(H:Hp)(st:Addr)(qs:List Addr):Prop:=∀q∈qs,∃(c:Int) (l:Addr) (ns:List Nat),H q=some (.tup [.int c,.ref l])/\H l=some (.lst (NV ns))/\l≠st/\ns.length=n
theorem StepsL.same{H:Hp}{st:Addr}(h:StepsL n H st qs)(s:Same H H1):StepsL n H1 st qs:=λq hq=>by
 obtain⟨c,l,ns,e1,e2,e3,e4⟩:=h q hq;exact⟨c,l,ns,s _ _ e1,s _ _ e2,e3,e4⟩
theorem StepsL.own{H:Hp}{st:Addr}(h:StepsL n H st qs)(hx:H st=some (.lst xs)):StepsL n (upd H st (.lst ys)) st qs:=λq hq=>by
 obtain⟨c,l,ns,e1,e2,e3,e4⟩:=h q hq;exact⟨c,l,ns,by rw[aB (iC e1 hx (by intro c;cases c))];exact e1,by rw[aB e3];exact e2,e3,e4⟩
theorem StepsL.snoc{H:Hp}{st q:Addr}{c:Int}{ns:List Nat}(h:StepsL n H st qs)(e1:H q=some (.tup [.int c,.ref l]))(e2:H l=some (.lst (NV ns)))(e3:l≠st)(e4:ns.length=n):StepsL n H st (qs++[q]):=λp hp=>by
 rcases Et.mp hp with g|g
 ·exact h p g
 ·rw[D5.mp g];exact⟨c,l,ns,e1,e2,e3,e4⟩
theorem t6{rss:List (List Nat)}{w:Nat}(h:c<(bt rss w b).length):(bt rss w b).getD c []=cnt (bD rss c) b:=by
 rw[dH]at h;unfold bt;rw[DS,DX,EX h];rfl
def xu:Sp:=λvs H Q _=>∃(a:Addr) (rss:List (List Nat)) (w b:Nat),vs=[.ref a,.int b]/\Rws H a rss w b/\
 ∀(t o st:Addr) (qs:List Addr) (os:List Nat) H',H' t=some (.tup [.ref o,.ref st])->H' o=some (.lst (NV os))->OrdR rss os->H' st=some (.lst (qs.map Ou))->StepsL rss.length H' st qs->qs.length<=200->qs.length=(dI (bt rss w b)).length->H t=none->H o=none->Same H H'->Q (.ref t) H'
theorem kN (T:Tx K mg t):FnOk P t.wd K mg base CX0 3 (t.f 11) (t.d 11) ["rows","base"] xu:=by
 refine okT (N:=["rows","base","order","steps","column","row"]) (T.fn 11 rfl) (λH Q hr nd h=>?_)
 ·obtain⟨a,rss,w,b,rfl,⟨⟨ps,ta,hR⟩,hG,hn,hw,hb⟩,k⟩:=h
  have hwl:∀r∈rss,r.length=w:=λr hr=>(hG r hr).1
  have hpl:ps.length=rss.length:=hR.1;have hcols:∀p,ps[0]? = some p->∃zs,(H p=some (.lst zs)\/H p=some (.tup zs))/\zs.length=w:=λp hp=>by
   have h0:0<rss.length:=by rw[<-hpl];exact br hp
   have hl:=(hG rss[0] (D1 h0)).1;exact⟨_,.inr (hR.2 0 p _ hp (DR h0)),by rw[aC];exact hl⟩
  have eM:=dH rss w b;have hM:(bt rss w b).length<=w:=by rw[eM];split<;>lia
  have hMr:∀r∈rss,r.length<=(bt rss w b).length:=λr hr=>by rw[eM,if_neg (λz=>by rw[z]at hr;cases hr),hwl r hr];exact DY _
  refine⟨_,(af (aJ (i:=2) (jx rfl rfl T.bZ rfl T.bW (ai (ag (aU (K:=K)) (by rfl) T.bA aO (ai (qv 0) ae)) ae)))
   (af (aJ (i:=3) (bo ae))
   (af (cf Em rfl (ff rfl T.bW (ai (aG cW (aI (cy T) hr (T.fn 2 rfl) (ai (qv 0) ae)) ao) (ai (gg gh ao) (ai (gg gh ao) ae)))) (aE (i:=4)) (af (gR (i:=5) (N:=["place","rows","column"]) (tgs:=["place"]) (frs:=["rows","column"]) (ix:=[0,4])  nd rfl (Fh rfl) ⟨rfl,by decide +kernel,rfl,by decide +kernel,rfl,rfl,⟨⟨rfl,rfl,_,rfl,rfl⟩,⟨rfl,rfl,_,rfl,rfl⟩,D3⟩,⟨rfl,rfl,D3⟩,rfl⟩ rfl (aS (K:=K) (qv 2)) (λ_ _ _ _=>(aE (i:=0))) (λ_ _ _ _=>(aR (eZ (K:=K)) (aR (bx (K:=K)) (qv 1) (qv 0)) (qv 2))))
   (aq (aV (bB (aI (dP T) hr (T.fn 5 rfl) (ai (aI (fH T) hr (T.fn 0 rfl) (ai (qv 5) (ai (qv 1) ae))) ae))) (af (aJ (i:=2) (bj (N:=["at","order"]) (tgs:=["at"]) (frs:=["order"]) (ix:=[2]) ⟨rfl,by decide +kernel,rfl,by decide +kernel,rfl,rfl,⟨⟨rfl,rfl,_,rfl,rfl⟩,D3⟩,⟨rfl,D3⟩,rfl⟩ rfl (aS (K:=K) (aI (cY T) hr (T.fn 6 rfl) (ai (qv 5) (ai (qv 1) ae)))) (λ_ _ _ _=>(aE (i:=0))) (λ_ _ _ _=>(aR (bx (K:=K)) (qv 1) (qv 0)))))
   (aq (bN (bL (K:=K) (qv 3) (ai (ba (ai (qv 4) (ai (aT (ll (K:=K)) (by rfl) T.bZ bV (ai (qv 2) ae)) ae))) ae))))) aK))))
   (aq (ax (ba (ai (qv 2) (ai (qv 3) ae)))))))),?_⟩
  dsimp only[st0];nofun;refine aL (Od ta) ?_;rw[DT,hpl];nofun;refine⟨rss.length,rfl,by lia,λo0 ho0=>?_⟩;rw[jy];have er:((DZ rss.length).map λi=>0+i)=DZ rss.length:=by simp
  rw[er];obtain⟨H1,e9,s1,to0⟩:=nwR ho0 (.lst (NV (DZ rss.length)));rw[e9];nofun;refine⟨aF (by simp),λst hst=>?_⟩;have hstn:H st=none:=s1.free hst;have h0s:o0≠st:=ay to0 hst;obtain⟨H2,e9,s2,e8,(tst:H2 st=some (.lst (([]:List Addr).map Ou)))⟩:=nwD s1 hst (.lst []);rw[e9];have to2:=e8 _ _ to0;nofun;refine⟨a,ps,rss,w,rfl,s2 _ _ ta,hpl,(λp hp=>by obtain⟨zs,h,e⟩:=hcols p hp;exact⟨zs,h.elim (λh=>.inl (s2 _ _ h)) (λh=>.inr (s2 _ _ h)),e⟩),?_⟩;rw[<-eM];nofun;refine⟨_,rfl,by lia,eF (n:=(bt rss w b).length) (λi σ H'=>Same H H'/\(∃(o:Addr) (os:List Nat) (qs:List Addr),H' o=some (.lst (NV os))/\os.Perm (DZ rss.length)/\os.Pairwise (Rk rss ((bt rss w b).length - i))/\H o=none/\o≠st/\H' st=some (.lst (qs.map Ou))/\qs.length=(jz (bt rss w b) i).length/\StepsL rss.length H' st qs/\∃v w,σ=[some (Ou a),some (Of b),some (Ou o),some (Ou st),v,w])) ⟨s2,o0,_,[],to2,FP _,kq hMr,ho0,h0s,tst,rfl,(λq h=>nomatch h),_,_,rfl⟩ (λi σ H' hi _=>hi) (λσ H' _=>DY _) ?_ ?_⟩
  ·rintro i x σ H3o H3 hi ⟨s3,o,os,qs,to3,hP,hW,hon,hos,ts3,hsl,hS,v,w',rfl⟩ ⟨rfl,rfl⟩
   have hosl:os.length=rss.length:=by have:=hP.length_eq;simpa using this
   have hcm:(bt rss w b).length - 1 - i<(bt rss w b).length:=by lia
   have esc:=iV hi;have ecl:=fk (tss:=bt rss w b) i;have ec1:(bt rss w b).length - i=(bt rss w b).length - 1 - i+1:=by lia
   have ec2:(bt rss w b).length - (i+1)=(bt rss w b).length - 1 - i:=by lia
   rw[ec1]at hW;rw[ec2];generalize (bt rss w b).length - 1 - i=c at hcm esc hW;rw[t6 hcm]at esc;have hcw:c<w:=by lia
   have hrow:=fi (os:=os) (xs:=bD rss c) (by rw[iw];exact hP);nofun;refine⟨o,rfl,⟨_,Od to3⟩,bf (a:=o) (vs:=NV os) (λi ys σ H'=>H'=H3/\i<=os.length/\ys=NV ((os.map λp=>(bD rss c).getD p 0).take i)/\∃v,σ=[v,some (Ou a),some (Of c)]) (by rw[aC];exact au ⋯) (λi ys σ H' h=>by rw[h.2.2.1,aC,Ee,DT];lia) (λi ys σ H' h=>by rw[h.1];exact Od to3) ⟨rfl,Ec _,rfl,none,rfl⟩ ?_ ?_⟩
   ·rintro j ys σ H' x hx ⟨rfl,_,rfl,v,rfl⟩
    have hil:=br hx;obtain⟨q,rfl,hq,hqm,hj⟩:=aH hx;have hqn:q<rss.length:=by simpa using hP.mem_iff.mp hqm
    have hqp:q<ps.length:=by lia
    have er:rss[q]? = some rss[q]:=by simp[hqn]
    obtain⟨g1,g2⟩:=lN hG er hcw;nofun;refine bJ (Od (s3 _ _ ta)) (v:=Ou ps[q]) (bg (by rw[DX];simp[hqp])) ?_;nofun;refine mh (Oe (s3 _ _ (hR.2 q ps[q] _ (by simp[hqp]) er))) (gm rfl g1) ?_;refine Ol hil ⟨rfl,hj,?_,_,rfl⟩;rw[bU,D7,DX,hq];show _=NV (_++[(bD rss c).getD q 0])
    rw[getD_some g2]
   rintro ys σ H' ⟨rfl,_,rfl,v,rfl⟩ z hz;rw[DW (by rw[aC,DT];exact DY _)];have hrl:(os.map λp=>(bD rss c).getD p 0).length=rss.length:=by rw[DT];exact hosl
   have hrb:∀x∈os.map λp=>(bD rss c).getD p 0,x<b:=λx hx=>i8 hG hcw x (hrow.mem_iff.mp hx)
   have ecn:cnt (os.map λp=>(bD rss c).getD p 0) b=cnt (bD rss c) b:=sR hrow;have hstep:∀ob,ByF (os.map λp=>(bD rss c).getD p 0) ob->(cmp os ob).Pairwise (Rk rss c):=λob hB=>sT hwl hcw hP hW hB
   generalize (os.map λp=>(bD rss c).getD p 0)=row at hrl hrb ecn hstep;obtain⟨H4,e9,s34,tz⟩:=nwR hz (.lst (NV row));rw[e9];nofun;refine⟨z,row,b,rfl,⟨tz,trivial⟩,hrb,by lia,hb,λcc H5 hcc s5 tcc=>?_⟩;nofun;refine⟨cc,cnt row b,rfl,.inl tcc,by rw[bF];exact hb,λH6 s6=>?_⟩;have s36:=s34.trans (s5.trans s6);have tz6:=s6 _ _ (s5 _ _ tz);rw[ecn];nofun;by_cases hp:cq (cnt (bD rss c) b)=true
   ·rw[if_pos hp]at esc ⊢
    nofun;refine⟨z,row,b,rfl,tz6,hrb,by lia,hb,λd ob H7 hd0 s7 td hB=>?_⟩;have hO:=hB.ord;rw[hrl]at hO;have s37:=s36.trans s7;have to7:=s37 _ _ to3;nofun;refine⟨d,rfl,⟨_,Od td⟩,bf (a:=d) (vs:=NV ob) (λi ys σ H'=>H'=H7/\i<=ob.length/\ys=NV ((cmp os ob).take i)/\∃v,σ=[v,some (Ou o)]) (by rw[aC,hO.len];exact au ⋯) (λi ys σ H' h=>by rw[h.2.2.1,aC,Ee,eG];lia) (λi ys σ H' h=>by rw[h.1];exact Od td) ⟨rfl,Ec _,rfl,none,rfl⟩ ?_ ?_⟩
    ·rintro j ys σ H9 x hx ⟨rfl,_,rfl,v,rfl⟩
     have hil:=br hx;obtain⟨q,rfl,hq,hqm,hj⟩:=aH hx;have hqn:=hO.lt q hqm;have hqo:q<os.length:=by lia
     nofun;refine bJ (Od to7) (gm rfl (o:=os[q]) (by simp[hqo])) ?_;refine Ol hil ⟨rfl,hj,?_,_,rfl⟩;rw[bU,D7,lp hq (r:=os[q]) (by simp[hqo])];rfl
    rintro ys σ H9 ⟨rfl,_,rfl,v,rfl⟩ y hy;rw[DW (by rw[aC,eG];exact DY _)];have hP2:(cmp os ob).Perm (DZ rss.length):=by
     have h1:=fi (os:=ob) (xs:=os) (by rw[hosl];exact hO.perm);exact h1.trans hP
    have hyn:H y=none:=s3.free (s37.free hy);have hys:y≠st:=λe=>by have:=s37 _ _ ts3;rw[<-e,hy]at this;cases this
    obtain⟨H8,e9,s8,ty⟩:=nwR hy (.lst (NV (cmp os ob)));rw[e9];have s38:=s37.trans s8;have ts8:=s38 _ _ ts3;nofun;refine⟨bq ts8,?_⟩;nofun;refine gL (.inl (Od ty)) λl2 hl2=>?_
    obtain⟨HA,e9,sA,tl2⟩:=nwR hl2 (.lst (NV (cmp os ob)));rw[e9];have hl2s:l2≠st:=λe=>by rw[e,ts8]at hl2;cases hl2
    nofun;refine⟨aF (by simp),λtq htq=>?_⟩;obtain⟨HB,e9,sB,ttq⟩:=nwR htq (.tup [Of (c:Nat),Ou l2]);rw[e9];have s3B:=s38.trans (sA.trans sB);have tsB:=s3B _ _ ts3;nofun;refine aZ tsB (by rw[DT];exact au ⋯) ?_;refine⟨(s3.trans s3B).own hstn,y,cmp os ob,qs++[tq],by rw[aB hys];exact sB _ _ (sA _ _ ty),hP2,hstep ob hB,hyn,hys,by rw[aj,D0];rfl,by rw[esc,D8,D8,hsl];rfl,((hS.same s3B).snoc ttq (sB _ _ tl2) hl2s (by rw[eG];exact hO.len)).own tsB,_,_,rfl⟩
   ·rw[if_neg hp,E1]at esc
    rw[if_neg hp];nofun;exact⟨s3.trans s36,o,os,qs,s36 _ _ to3,hP,sU hwl (i8 hG hcw) hcw hP hW hp,hon,hos,s36 _ _ ts3,by rw[esc];exact hsl,hS.same s36,_,_,rfl⟩
  ·rintro σ H3 ⟨s3,o,os,qs,to3,hP,hW,hon,hos,ts3,hsl,hS,v,w',rfl⟩
   rw[Nk]at hW;rw[fj]at hsl;have hcl:=fk (tss:=bt rss w b) (bt rss w b).length;rw[fj]at hcl;nofun;refine⟨aF (by simp),λt ht=>?_⟩;exact k t o st qs os _ aj (by rw[aB (ay to3 ht)];exact to3) ⟨hP,hW⟩ (by rw[aB (ay ts3 ht)];exact ts3) (hS.same ((Oi H3).new ht)) ⋯ hsl (s3.free ht) hon (s3.new ht)
def xw:Sp:=λvs H Q _=>∃(f c:Nat) (a:Addr) (cs:List Nat),vs=[.int f,.ref a,.int c]/\H a=some (.lst (NV cs))/\cs.length<=64/\∀(l:Addr) (qs:List Addr) H',H l=none->Same H H'->H' l=some (.lst (qs.map Ou))->TrAt H' qs (a0 f cs c)->Q (.ref l) H'
theorem lQ{f:Nat}(h:i<cs.length):(a0 f cs c).take (i+1)=(a0 f cs c).take i++[(f+(cs.take i).sum,f+(cs.take i).sum+cs.getD i 0,c)]:=by
 unfold a0;rw[D7,DX,EX h];rfl
theorem jc(f c:Nat)(cs:List Nat):(a0 f cs c).length=cs.length:=by unfold a0;simp
theorem lR (T:Tx K mg t):FnOk P t.wd K mg base CX0 2 (t.f 7) (t.d 7) ["first","often","column"] xw:=by
 refine okT (N:=["first","often","column"]) (T.fn 7 rfl) (λH Q hr nd h=>?_)
 ·obtain⟨f,c,a,cs,rfl,ta,hcl,k⟩:=h
  refine⟨_,(aq (ax (bj (N:=["begin","many","first","column"]) (tgs:=["begin","many"]) (frs:=["first","column"]) (ix:=[0,2]) ⟨rfl,by decide +kernel,rfl,by decide +kernel,rfl,rfl,⟨⟨rfl,rfl,_,rfl,rfl⟩,⟨rfl,rfl,_,rfl,rfl⟩,D3⟩,⟨rfl,rfl,D3⟩,rfl⟩ rfl (uH (K:=K) rfl T.oE (ai (aI (kM T) hr (T.fn 1 rfl) (ai (qv 1) ae)) (ai (qv 1) ae))) (λ_ _ _ _=>(bM (K:=K) (n:=2) rfl (av (aE (i:=0)) (av (aE (i:=1)) aY)))) (λ_ _ _ _=>(ba (ai (aG cI (qv 2) (qv 0)) (ai (aG cI (aG cI (qv 2) (qv 0)) (qv 1)) (ai (qv 3) ae)))))))),?_⟩;dsimp only[st0];nofun;refine⟨a,cs,rfl,⟨ta,trivial⟩,hcl,λd H1 hd s1 td=>?_⟩;have ta1:=s1 _ _ ta;nofun;refine⟨d,a,rfl,⟨_,Od td⟩,⟨_,Od ta1⟩,gw (n:=cs.length) (λi ys σ H'=>Same H1 H'/\(∃qs:List Addr,ys=qs.map Ou/\qs.length=i/\TrAt H' qs ((a0 f cs c).take i))/\∃v w,σ=[v,w,some (Of f),some (Of c)]) (au ⋯) (λi ys σ H' h=>by obtain⟨_,⟨qs,rfl,e,_⟩,_⟩:=h;rw[DT,e]) ⟨Oi _,⟨[],rfl,rfl,rfl,λi q s h=>by simp at h⟩,none,none,rfl⟩ ?_ ?_ ?_ ?_⟩
  ·rintro i ys σ H2 hi ⟨s2,_⟩
   exact⟨_,_,Of ((cs.take i).sum:Nat),Of (cs[i]:Nat),Od (s2 _ _ td),Od (s2 _ _ ta1),fe (gz hi),fe (by simp[hi])⟩
  ·rintro ys σ H2 ⟨s2,_⟩
   exact⟨_,_,Od (s2 _ _ td),Od (s2 _ _ ta1),.inl (by rw[aC,gy];exact DY _)⟩
  ·rintro i x ys σ H2 H3 hi ⟨s2,⟨qs,rfl,hql,hQ⟩,v,w,rfl⟩ ⟨p,x1,y1,rfl,hp,rfl,hx1,hy1⟩
   have hx2:=hx1 _ (Od (s2 _ _ td));have hy2:=hy1 _ (Od (s2 _ _ ta1));rw[fe (gz hi)]at hx2;rw[fe (o:=cs[i]) (by simp[hi])]at hy2;obtain rfl:=Er hx2;obtain rfl:=Er hy2;refine bu aj ?_;dsimp only[E7];have s3:=s2.new (o:=.tup [Of ((cs.take i).sum:Nat),Of (cs[i]:Nat)]) hp;have Q3:=hQ.same ((Oi H2).new (o:=.tup [Of ((cs.take i).sum:Nat),Of (cs[i]:Nat)]) hp);generalize upd H2 p (.tup [Of ((cs.take i).sum:Nat),Of (cs[i]:Nat)])=H3 at s3 Q3;have e1:(f:Int)+((cs.take i).sum:Nat)=((f+(cs.take i).sum:Nat):Int):=by lia
   have eg:cs.getD i 0=cs[i]:=by rw[DS,DR hi];rfl
   have e2:((f+(cs.take i).sum:Nat):Int)+(cs[i]:Nat)=((f+(cs.take i).sum+cs[i]:Nat):Int):=by lia
   nofun;rw[e1,e2];refine⟨aF (by simp),λt ht=>?_⟩;refine Ol hi ⟨s3.new ht,⟨qs++[t],by rw[D0];rfl,by simp[hql],?_⟩,_,_,rfl⟩;rw[lQ hi,eg];exact(Q3.same ((Oi _).new ht)).snoc aj
  ·rintro ys σ H2 ⟨s2,⟨qs,rfl,hql,hQ⟩,v,w,rfl⟩ l hl
   rw[DW (by rw[jc];exact DY _)]at hQ;exact k l qs _ (s1.free (s2.free hl)) ((s1.trans s2).new hl) aj (hQ.same ((Oi H2).new hl))
def t7:Sp:=λvs H Q _=>∃(a:Addr) (rss:List (List Nat)) (w b:Nat),vs=[.ref a,.int b]/\Rws H a rss w b/\
 ∀(t o st:Addr) (zs:List Addr) (os:List Nat) (sts:List cA) H',Fst rss (if rss=[]then 0 else w) os sts []->sts.length<=200->H' t=some (.tup [.ref o,.ref st])->H' o=some (.lst (NV os))->OrdR rss os->H' st=some (.lst (zs.map Ou))->TrAt H' zs sts->H t=none->H o=none->Same H H'->Q (.ref t) H'
theorem jU (T:Tx K mg t):FnOk P t.wd K mg base CX0 3 (t.f 8) (t.d 8) ["rows","base"] t7:=by
 refine okT (N:=["rows","base","order","steps","columns","waiting","first","last","column","stretch","row","often"]) (T.fn 8 rfl) (λH Q hr nd h=>?_)
 ·obtain⟨a,rss,w,b,rfl,⟨⟨ps,hta,hR⟩,hG,hn,hw,hb⟩,k⟩:=h
  have hpl:ps.length=rss.length:=hR.1;have hwl:∀r∈rss,r.length=w:=λr hr=>(hG r hr).1
  have ta:=hta
  ·refine⟨_,(af (aJ (i:=2) (jx rfl rfl T.bZ rfl T.bW (ai (ag (aU (K:=K)) (by rfl) T.bA aO (ai (qv 0) ae)) ae)))
   (af (aJ (i:=3) (bo ae))
   (af (aJ (i:=4) (aI (cy T) hr (T.fn 2 rfl) (ai (qv 0) ae)))
   (af (aJ (i:=5) (bo (ai (ba (ai ao (ai (ag (aU (K:=K)) (by rfl) T.bA aO (ai (qv 0) ae)) (ai ao ae)))) ae)))
   (af (cX Em (gv (K:=K) (qv 5)) (af (da (pW (K:=K) (qv 5)) (bM (K:=K) (n:=3) rfl (av (aE (i:=6)) (av (aE (i:=7)) (av (aE (i:=8)) aY)))))
   (af (aV (Oj (gO (aD oG (aG cW (qv 7) (qv 6)) ao (az _)) (eY (aD dD (qv 8) (qv 4) (az _))))) (aq wq) aK)
   (af (aJ (i:=9) (cG (ke (K:=K)) (qv 2) (bT (qv 6)) (bT (qv 7))))
   (af (gR (i:=10) (N:=["place","rows","column"]) (tgs:=["place"]) (frs:=["rows","column"]) (ix:=[0,8])  nd rfl (Fh rfl) ⟨rfl,by decide +kernel,rfl,by decide +kernel,rfl,rfl,⟨⟨rfl,rfl,_,rfl,rfl⟩,⟨rfl,rfl,_,rfl,rfl⟩,D3⟩,⟨rfl,rfl,D3⟩,rfl⟩ rfl (aS (K:=K) (qv 9)) (λ_ _ _ _=>(aE (i:=0))) (λ_ _ _ _=>(aR (eZ (K:=K)) (aR (bx (K:=K)) (qv 1) (qv 0)) (qv 2))))
   (af (aJ (i:=11) (aI (fH T) hr (T.fn 0 rfl) (ai (qv 10) (ai (qv 1) ae))))
   (af (aV (bB (aI (dP T) hr (T.fn 5 rfl) (ai (qv 11) ae))) (af (uL (bj (N:=["at","stretch"]) (tgs:=["at"]) (frs:=["stretch"]) (ix:=[9]) ⟨rfl,by decide +kernel,rfl,by decide +kernel,rfl,rfl,⟨⟨rfl,rfl,_,rfl,rfl⟩,D3⟩,⟨rfl,D3⟩,rfl⟩ rfl (aS (K:=K) (aI (cY T) hr (T.fn 6 rfl) (ai (qv 10) (ai (qv 1) ae)))) (λ_ _ _ _=>(aE (i:=0))) (λ_ _ _ _=>(aR (bx (K:=K)) (qv 1) (qv 0)))) (qv 2) (qv 6) (qv 7))
   (aq (bN (bL (K:=K) (qv 3) (ai (ba (ai (qv 6) (ai (qv 7) (ai (qv 8) ae)))) ae))))) aK)
   (aq (bN (gX (K:=K) (qv 5) (ai (uE (K:=K) (aI (lR T) hr (T.fn 7 rfl) (ai (qv 6) (ai (qv 11) (ai (aG cI (qv 8) ao) ae))))) ae)))))))))))
   (aq (ax (ba (ai (qv 2) (ai (qv 3) ae)))))))))),?_⟩
   dsimp only[st0];nofun;refine aL (Od ta) ?_;rw[DT,hpl];nofun;refine⟨rss.length,rfl,by lia,λo ho=>?_⟩;rw[jy];have er:((DZ rss.length).map λi=>0+i)=DZ rss.length:=by simp
   rw[er];obtain⟨H1,e9,s1,to0⟩:=nwR ho (.lst (NV (DZ rss.length)));rw[e9];nofun;refine⟨aF (by simp),λst hst=>?_⟩;have hstn:H st=none:=s1.free hst;have h0s:o≠st:=ay to0 hst;obtain⟨H2,e9,s2,e8,tst⟩:=nwD s1 hst (.lst []);rw[e9];have to2:=e8 _ _ to0;nofun;refine⟨a,ps,rss,w,rfl,s2 _ _ ta,hpl,(λp hp=>by
    have h0:0<rss.length:=by rw[<-hpl];exact br hp
    exact⟨_,.inr (s2 _ _ (hR.2 0 p _ hp (DR h0))),by rw[aC];exact(hG rss[0] (D1 h0)).1⟩),?_⟩
   have hC:∀r∈rss,r.length=(if rss=[]then 0 else w):=λr hr=>by rw[if_neg (λz=>by rw[z]at hr;cases hr)];exact hwl r hr
   have hCw:(if rss=[]then 0 else w)<=w:=by split<;>lia
   generalize (if rss=[]then 0 else w)=C at hC hCw k;nofun;refine aL (Od (s2 _ _ ta)) ?_;rw[DT,hpl];nofun;refine⟨aF (by simp),λt0 ht0=>?_⟩;obtain⟨H3,e9,s3,e8,(tt0:H3 t0=some (.tup [Of ((0:Nat):Int),Of (rss.length:Nat),Of ((0:Nat):Int)]))⟩:=nwD s2 ht0 (.tup [Of 0,Of (rss.length:Nat),Of 0]);rw[e9];have to3:=e8 _ _ to2;have ts3:=e8 _ _ tst;nofun;refine⟨aF (by simp),λwl hwl0=>?_⟩;have hwn:H wl=none:=s3.free hwl0;have how:o≠wl:=ay to3 hwl0;have hsw:st≠wl:=ay ts3 hwl0;have s4:=s3.new (o:=.lst [Ou t0]) hwl0;have to4:(upd H3 wl (.lst [Ou t0])) o=some (.lst (NV (DZ rss.length))):=by rw[aB how];exact to3
   have ts4:(upd H3 wl (.lst [Ou t0])) st=some (.lst []):=by rw[aB hsw];exact ts3
   have tw4:(upd H3 wl (.lst [Ou t0])) wl=some (.lst ([t0].map Ou)):=aj;have T4:TrAt (upd H3 wl (.lst [Ou t0])) [t0] [(0,rss.length,0)]:=by
    refine⟨rfl,λi q s a b=>?_⟩
    match i,a,b with
    | 0,a,b=>cases a;cases b;rw[aB (ay tt0 hwl0)];exact tt0
    | i+1,a,_=>simp at a
   generalize upd H3 wl (.lst [Ou t0])=H4 at s4 to4 ts4 tw4 T4;nofun;refine⟨λm σ H'=>∃(ws:List cA) (qs:List Addr) (os:List Nat) (zs:List Addr),m=jC b C ws/\Same H H'/\H' o=some (.lst (NV os))/\H' st=some (.lst (zs.map Ou))/\H' wl=some (.lst (qs.map Ou))/\TrAt H' qs ws/\Msd rss C os ws/\Low b ws/\zs.length+fo ws<=200/\(∃sts,TrAt H' zs sts/\Fst rss C os sts (ws.filter (act C)))/\∃v6 v7 v8 v9 va vb,σ=[some (Ou a),some (Of b),some (Ou o),some (Ou st),some (Of C),some (Ou wl),v6,v7,v8,v9,va,vb],⟨_,_,_,_,[],rfl,s4,to4,ts4,tw4,T4,Msd.start rss C,(λi s e=>?_),?_,⟨[],⟨rfl,λi q s h=>by simp at h⟩,Fst.start⟩,_,_,_,_,_,_,rfl⟩,?_⟩
   ·match i,e with
    | 0,_=>exact Ec _
    | i+1,e=>simp at e
   ·show 0+(rss.length - 0 - 1+0)<=200
    lia
   rintro m σ H5 ⟨ws,qs,os,zs,rfl,s5,to5,ts5,tw5,T5,M5,L5,ph5,⟨sts,TZ5,F5⟩,v6,v7,v8,v9,va,vb,rfl⟩;nofun;refine⟨_,BK (Od tw5),?_⟩;by_cases hq0:qs=[]
   ·have hw0:ws=[]:=Fi.mp (by rw[<-T5.1,hq0];rfl)
    subst hq0 hw0;rw[if_neg (by simp)];nofun;refine⟨aF (by simp),λt ht=>?_⟩;exact k t o st zs os sts _ F5 (by rw[<-TZ5.1];lia) aj (by rw[aB (ay to5 ht)];exact to5) ⟨M5.perm,M5.done⟩ (by rw[aB (ay ts5 ht)];exact ts5) (TZ5.same ((Oi H5).new ht)) (s5.free ht) ho (s5.new ht)
   obtain⟨rs,q,vs,⟨f,l,c⟩,rfl,rfl,Tr,tq⟩:=T5.last hq0;have tq:H5 q=some (.tup [.int (f:Nat),.int (l:Nat),.int (c:Nat)]):=tq;have hne:(!((rs++[q]).map Ou).isEmpty)=true:=by simp
   rw[if_pos hne];refine⟨_,λ_ _ z=>z,?_⟩;nofun;refine⟨bq tw5,?_⟩;rw[D0]at tw5;refine qf tw5 ?_;have s6:=s5.own (o:=.lst (rs.map Ou)) hwn;have to6:(upd H5 wl (.lst (rs.map Ou))) o=some (.lst (NV os)):=by rw[aB how];exact to5
   have ts6:(upd H5 wl (.lst (rs.map Ou))) st=some (.lst (zs.map Ou)):=by rw[aB hsw];exact ts5
   have TZ6:TrAt (upd H5 wl (.lst (rs.map Ou))) zs sts:=TZ5.own tw5;have tw6:(upd H5 wl (.lst (rs.map Ou))) wl=some (.lst (rs.map Ou)):=aj;have T6:TrAt (upd H5 wl (.lst (rs.map Ou))) rs vs:=Tr.own tw5;have tq6:(upd H5 wl (.lst (rs.map Ou))) q=some (.tup [.int (f:Nat),.int (l:Nat),.int (c:Nat)]):=by rw[aB (iC tq tw5 (by intro c;cases c))];exact tq
   generalize upd H5 wl (.lst (rs.map Ou))=H6 at s6 to6 ts6 tw6 T6 tq6 TZ6;refine dX tq6 ?_;dsimp only[E7];have hok:f<=l/\l<=rss.length/\c<=C:=M5.ok (f,l,c) (Eg _ (D5.mpr rfl));obtain⟨hfl,hln,hcC⟩:=hok;have hosl:os.length=rss.length:=by have:=M5.perm.length_eq;simpa using this
   rw[lB]at ph5;have ph5:zs.length+(fo vs+(l - f - 1))<=200:=ph5;nofun;refine a9 (λg1=>?_) (λg1=>?_)
   ·nofun
    exact⟨_,mP b C vs (f,l,c),vs,rs,os,zs,rfl,s6,to6,ts6,tw6,T6,M5.skip hC (.inl ⋯),L5.left,by lia,⟨sts,TZ6,F5.skip (.inl ⋯)⟩,_,_,_,_,_,_,rfl⟩
   nofun;refine a9 (λg2=>?_) (λg2=>?_)
   ·have ecC:c=C:=MC (Of.inj g2)
    nofun;exact⟨_,mP b C vs (f,l,c),vs,rs,os,zs,rfl,s6,to6,ts6,tw6,T6,M5.skip hC (.inr ecC),L5.left,by lia,⟨sts,TZ6,F5.skip (.inr ecC)⟩,_,_,_,_,_,_,rfl⟩
   have hcC':c<C:=by
    have:c≠C:=λz=>g2 (by rw[z])
    lia
   have hcw:c<w:=by lia
   nofun;refine⟨_,rfl,?_⟩;nofun;refine⟨_,rfl,?_⟩;refine⟨o,_,rfl,Od to6,λz hz=>?_⟩;rw[qi os hfl ⋯];have hsl:((os.drop f).take (l - f)).length=l - f:=by rw[Ee,EO];lia
   have hsm:∀x∈(os.drop f).take (l - f),x<rss.length:=λx hx=>by simpa using M5.perm.mem_iff.mp (G3 (FH hx))
   have hstep:=λob hB=>M5.step (ob:=ob) hC hcC' (i8 hG hcw) hB
   have hback:os.take f++(os.drop f).take (l - f)++os.drop l=os:=by
    have e1:os.drop l=(os.drop f).drop (l - f):=by rw[F4];congr 1;lia
    rw[e1,EA,EW,EW]
   have hfst:=λhbb=>F5.go (b:=b) ⋯ hcC' hb hbb
   generalize (os.drop f).take (l - f)=seg at hsl hsm hstep hback hfst;obtain⟨H7,e9,s67,tz⟩:=nwR hz (.lst (NV seg));rw[e9];nofun;refine⟨z,rfl,⟨_,Od tz⟩,bf (a:=z) (vs:=NV seg) (λi ys σ H'=>H'=H7/\i<=seg.length/\ys=NV ((seg.map λp=>(bD rss c).getD p 0).take i)/\∃v,σ=[v,some (Ou a),some (Of c)]) (by rw[aC];exact au ⋯) (λi ys σ H' h=>by rw[h.2.2.1,aC,Ee,DT];lia) (λi ys σ H' h=>by rw[h.1];exact Od tz) ⟨rfl,Ec _,rfl,none,rfl⟩ ?_ ?_⟩
   ·rintro j ys σ H' x hx ⟨rfl,_,rfl,v,rfl⟩
    have hil:=br hx;obtain⟨q,rfl,hq,hqm,hj⟩:=aH hx;have hqn:=hsm q hqm;have hqp:q<ps.length:=by lia
    have er:rss[q]? = some rss[q]:=by simp[hqn]
    obtain⟨g3,g4⟩:=lN hG er hcw;nofun;refine bJ (Od (s67 _ _ (s6 _ _ ta))) (v:=Ou ps[q]) (bg (by rw[DX];simp[hqp])) ?_;nofun;refine mh (Oe ((hR.same (s6.trans s67)).2 q ps[q] _ (by simp[hqp]) er)) (gm rfl g3) ?_;refine Ol hil ⟨rfl,hj,?_,_,rfl⟩;rw[bU,D7,DX,hq];show _=NV (_++[(bD rss c).getD q 0])
    rw[getD_some g4]
   rintro ys σ H' ⟨rfl,_,rfl,v,rfl⟩ y hy;rw[DW (by rw[aC,DT];exact DY _)];have hrl:(seg.map λp=>(bD rss c).getD p 0).length=l - f:=by rw[DT];exact hsl
   have hrb:∀x∈seg.map λp=>(bD rss c).getD p 0,x<b:=λx hx=>by
    obtain⟨p,hp,rfl⟩:=D4.mp hx;have hp':p<(bD rss c).length:=by rw[iw];exact hsm p hp
    rw[DS,DR hp'];exact i8 hG hcw _ (D1 hp')
   generalize (seg.map λp=>(bD rss c).getD p 0)=row at hrl hrb hstep hfst;obtain⟨hfst1,hfst2⟩:=hfst hrb;obtain⟨H8,e9,s78,ty⟩:=nwR hy (.lst (NV row));rw[e9];nofun;refine⟨y,row,b,rfl,⟨ty,trivial⟩,hrb,by lia,hb,λcc H9 hcc s9 tcc=>?_⟩;nofun;refine⟨cc,cnt row b,rfl,.inl tcc,by rw[bF];exact hb,λHA sA=>?_⟩;have s6A:=s67.trans (s78.trans (s9.trans sA));have toA:=s6A _ _ to6;have tsA:=s6A _ _ ts6;have twA:=s6A _ _ tw6;have TA:=T6.same s6A;have TZA:=TZ6.same s6A;have tyA:=sA _ _ (s9 _ _ ty);have tccA:=sA _ _ tcc;have tzA:=(s78.trans (s9.trans sA)) _ _ tz;have s0A:=s6.trans s6A;have hcco:cc≠o:=λz=>by rw[z]at hcc;rw[(s67.trans s78) _ _ to6]at hcc;cases hcc
   have hccs:cc≠st:=λz=>by rw[z]at hcc;rw[(s67.trans s78) _ _ ts6]at hcc;cases hcc
   have hcsum:(cnt row b).sum=l - f:=by rw[p9 hrb];exact hrl
   have hpar:=kr vs f (c+1) (cnt row b);have hpp0:0<(iB (cnt row b)).length:=by
    rcases Nat.eq_zero_or_pos (iB (cnt row b)).length with g|g
    ·have:=jD (cnt row b)
     have h0:((cnt row b).map λc=>c - 1).sum=0:=by
      have:∀c∈cnt row b,c - 1=0:=λc hc=>by
       have hn0:c∉iB (cnt row b):=λz=>by rw[Fi.mp g]at z;cases z
       unfold iB at hn0;rw[EI]at hn0;have:¬ 0<c:=λz=>hn0 ⟨hc,decide_eq_true z⟩
       lia
      rw[hJ 0 _ this];lia
     lia
    ·exact g
   nofun;apply Av (α:=List Nat) (S:=λob HD=>ByF row ob/\Same H HD/\HD o=some (.lst (NV (os.take f++cmp seg ob++os.drop l)))/\(∃zs':List Addr,HD st=some (.lst (zs'.map Ou))/\zs'.length+fo (vs++(a0 f (cnt row b) (c+1)).reverse)<=200/\∃sts',TrAt HD zs' sts'/\Fst rss C (os.take f++cmp seg ob++os.drop l) sts' ((vs++(a0 f (cnt row b) (c+1)).reverse).filter (act C)))/\HD wl=some (.lst (rs.map Ou))/\TrAt HD rs vs/\HD cc=some (.lst (NV (cnt row b))));case hA=>
    intro key;by_cases hp:cq (cnt row b)=true
    ·rw[if_pos hp]
     nofun;refine⟨y,row,b,rfl,tyA,hrb,by lia,hb,λd ob HB hd0 sB td hB=>?_⟩;have hO:=hB.ord;rw[hrl]at hO;have tzB:=sB _ _ tzA;nofun;refine⟨d,rfl,⟨_,Od td⟩,bf (a:=d) (vs:=NV ob) (λi ys σ H'=>H'=HB/\i<=ob.length/\ys=NV ((cmp seg ob).take i)/\∃v,σ=[v,some (Ou z)]) (by rw[aC,hO.len];exact au ⋯) (λi ys σ H' h=>by rw[h.2.2.1,aC,Ee,eG];lia) (λi ys σ H' h=>by rw[h.1];exact Od td) ⟨rfl,Ec _,rfl,none,rfl⟩ ?_ ?_⟩
     ·rintro j ys σ H9' x hx ⟨rfl,_,rfl,v,rfl⟩
      have hil:=br hx;obtain⟨q,rfl,hq,hqm,hj⟩:=aH hx;have hqn:=hO.lt q hqm;have hqo:q<seg.length:=by lia
      nofun;refine bJ (Od tzB) (gm rfl (o:=seg[q]) (by simp[hqo])) ?_;refine Ol hil ⟨rfl,hj,?_,_,rfl⟩;rw[bU,D7,lp hq (r:=seg[q]) (by simp[hqo])];rfl
     rintro ys σ HB' ⟨eB,_,rfl,v,rfl⟩ e he;subst eB;rw[DW (by rw[aC,eG];exact DY _)];have hcl:(cmp seg ob).length=l - f:=by rw[eG,hO.len]
     obtain⟨HC,e9,sC,te⟩:=nwR he (.lst (NV (cmp seg ob)));rw[e9];have hoe:o≠e:=ay (sB _ _ toA) he;have sAC:=sB.trans sC;nofun;refine⟨o,e,_,_,_,_,rfl,rfl,rfl,rfl,sAC _ _ toA,te,hoe,by lia,by lia,by rw[aC];lia,aF (by rw[aC,aC];lia),?_⟩;have espl:(NV os).take ((f:Nat):Int).toNat++NV (cmp seg ob)++(NV os).drop ((l:Nat):Int).toNat=NV (os.take f++cmp seg ob++os.drop l):=by
      rw[E3,E3];unfold NV;rw[D0,D0,Gi,GG]
     rw[espl];have sD:=(s0A.trans sAC).own (o:=.lst (NV (os.take f++cmp seg ob++os.drop l))) ho;have toD:(upd HC o (.lst (NV (os.take f++cmp seg ob++os.drop l)))) o=some (.lst (NV (os.take f++cmp seg ob++os.drop l))):=aj;have tsD:(upd HC o (.lst (NV (os.take f++cmp seg ob++os.drop l)))) st=some (.lst (zs.map Ou)):=by rw[aB (E5 h0s)];exact sAC _ _ tsA
     have TZD:TrAt (upd HC o (.lst (NV (os.take f++cmp seg ob++os.drop l)))) zs sts:=(TZA.same sAC).own (sAC _ _ toA);have twD:(upd HC o (.lst (NV (os.take f++cmp seg ob++os.drop l)))) wl=some (.lst (rs.map Ou)):=by rw[aB (E5 how)];exact sAC _ _ twA
     have TD:TrAt (upd HC o (.lst (NV (os.take f++cmp seg ob++os.drop l)))) rs vs:=(TA.same sAC).own (sAC _ _ toA);have tcD:(upd HC o (.lst (NV (os.take f++cmp seg ob++os.drop l)))) cc=some (.lst (NV (cnt row b))):=by rw[aB hcco];exact sAC _ _ tccA
     generalize upd HC o (.lst (NV (os.take f++cmp seg ob++os.drop l)))=HD at sD toD tsD twD TD tcD TZD;nofun;refine⟨bq tsD,?_⟩;nofun;refine⟨aF (by simp),λtq2 htq2=>?_⟩;obtain⟨HE,e9,sE,ttq2⟩:=nwR htq2 (.tup [Of (f:Nat),Of (l:Nat),Of (c:Nat)]);rw[e9];nofun;refine aZ (sE _ _ tsD) (au (by rw[DT];lia)) ?_;rw[show zs.map Ou++[Ou tq2]=(zs++[tq2]).map Ou by rw[D0];rfl];have hpp:1<(iB (cnt row b)).length:=by unfold cq at hp;exact of_decide_eq_true hp
     have q1:=(sD.trans sE).own (o:=.lst ((zs++[tq2]).map Ou)) hstn;have q2:(upd HE st (.lst ((zs++[tq2]).map Ou))) o=some (.lst (NV (os.take f++cmp seg ob++os.drop l))):=by rw[aB h0s];exact sE _ _ toD
     have q3:(upd HE st (.lst ((zs++[tq2]).map Ou))) st=some (.lst ((zs++[tq2]).map Ou)):=aj;have q4:(upd HE st (.lst ((zs++[tq2]).map Ou))) wl=some (.lst (rs.map Ou)):=by rw[aB (E5 hsw)];exact sE _ _ twD
     have q5:TrAt (upd HE st (.lst ((zs++[tq2]).map Ou))) rs vs:=(TD.same sE).own (sE _ _ tsD);have q6:(upd HE st (.lst ((zs++[tq2]).map Ou))) cc=some (.lst (NV (cnt row b))):=by rw[aB hccs];exact sE _ _ tcD
     have q7:TrAt (upd HE st (.lst ((zs++[tq2]).map Ou))) (zs++[tq2]) (sts++[(f,l,c)]):=((TZD.same sE).snoc (s:=(f,l,c)) ttq2).own (sE _ _ tsD);generalize upd HE st (.lst ((zs++[tq2]).map Ou))=HF at q1 q2 q3 q4 q5 q6 q7;nofun;exact key ob HF ⟨hB,q1,q2,⟨_,q3,by rw[D8,EV];lia,_,q7,hfst1 ob hB hp⟩,q4,q5,q6⟩
    ·rw[if_neg hp]
     obtain⟨ob,hob,hcb⟩:∃ob,ByF row ob/\cmp seg ob=seg:=⟨_,qg λx hx y hy=>iY hrb hp hx hy,qh seg (by rw[hrl];exact hsl)⟩
     nofun;refine key ob HA ⟨hob,s0A,?_,⟨zs,tsA,by lia,sts,TZA,?_⟩,twA,TA,tccA⟩
     ·rw[hcb,hback];exact toA
     ·rw[hcb,hback];exact hfst2 hp
   case hB=>
    rintro ob HD ⟨hob,sD,toD,⟨zs',tsD,phD,sts',TZD,FD⟩,twD,TD,tcD⟩;refine⟨bq twD,?_⟩;have ec1:(c:Int)+1=((c+1:Nat):Int):=by lia
    nofun;rw[ec1];refine⟨f,c+1,cc,cnt row b,rfl,tcD,by rw[bF];exact hb,λpl us HE hpl0 sE tpl TE=>?_⟩;nofun;refine⟨pl,_,rfl,Od tpl,λrv hrv=>?_⟩;have erv:(us.map Ou).reverse=us.reverse.map Ou:=(HS ..).symm;rw[erv];have sF:=sE.new (o:=.lst (us.reverse.map Ou)) hrv;have TF:=TE.same ((Oi HE).new (o:=.lst (us.reverse.map Ou)) hrv);have trv:(upd HE rv (.lst (us.reverse.map Ou))) rv=some (.lst (us.reverse.map Ou)):=aj;generalize upd HE rv (.lst (us.reverse.map Ou))=HF at sF TF trv;have hlow:=L5.step (cs:=cnt row b) (bF row b);have hlen:=hlow.len (C:=C) (hstep ob hob).ok';have hul:us.length=b:=by rw[TF.1,jc,bF]
    have hrsl:rs.length+us.length<=12801:=by
     have e1:(vs++(a0 f (cnt row b) (c+1)).reverse).length=rs.length+us.length:=by rw[D8,F3,<-TD.1,TF.1]
     have e2:b*C<=64*200:=Nat.mul_le_mul hb ⋯;lia
    nofun;refine g9 (sF _ _ twD) trv (Fv (E4 (by rw[DT,DT,F3];exact hrsl) (by decide))) ?_;rw[<-D0];refine⟨_,n8 vs hcC' (bF row b),_,rs++us.reverse,_,zs',rfl,(sD.trans sF).own hwn,?_,?_,aj,?_,hstep ob hob,hlow,phD,⟨sts',(TZD.same sF).own (sF _ _ twD),FD⟩,_,_,_,_,_,_,rfl⟩
    ·rw[aB how];exact sF _ _ toD
    ·rw[aB hsw];exact sF _ _ tsD
    ·exact((TD.same sF).app TF.rev).own (sF _ _ twD)
theorem C9{G:Prop}{S B:Hp->Prop}(hA:(∀H,S H->B H)->G)(hB:∀H,S H->B H):G:=hA hB
theorem DF{G:Prop}{S1 B1 S2 B2:Hp->Prop}(hA:(∀H,S1 H->B1 H)->(∀H,S2 H->B2 H)->G)(h1:∀H,S1 H->B1 H)(h2:∀H,S2 H->B2 H):G:=hA h1 h2
def rf:Sp:=λvs H Q _=>∃(a c:Addr) (ps qs:List Addr) (r1 r2:List (List Nat)),vs=[.ref a,.ref c]/\H a=some (.lst (ps.map Ou))/\H c=some (.lst (qs.map Ou))/\RowsT H ps r1/\RowsT H qs r2/\ps.length+qs.length<=200/\
 ∀(l:Addr) (us:List Addr) (ws:List (Nat×Nat)) H',H l=none->Same H H'->H' l=some (.lst (us.map Ou))->PrAt H' us ws->ws.length=ps.length+qs.length->Mgd r1 r2 r1.length r2.length ws->Q (.ref l) H'
theorem _root_.L2.Mgd.le{r1 r2:List (List Nat)}{ws:List (Nat×Nat)}(h:Mgd r1 r2 i j ws):i<=r1.length/\j<=r2.length/\∀w∈ws,(w.1=0/\w.2<r1.length)\/(w.1=1/\w.2<r2.length):=by
 induction h with
 | nil=>exact⟨Ec _,Ec _,λw h=>nomatch h⟩
 | one h hi c ih=>exact⟨hi,ih.2.1,λw hw=>(Et.mp hw).elim (ih.2.2 w) λg=>by rw[D5.mp g];exact .inl ⟨rfl,hi⟩⟩
 | two h hj c ih=>exact⟨ih.1,hj,λw hw=>(Et.mp hw).elim (ih.2.2 w) λg=>by rw[D5.mp g];exact .inr ⟨rfl,hj⟩⟩
theorem rg (T:Tx K mg t):FnOk P t.wd K mg base CX0 1 (t.f 18) (t.d 18) ["one","other"] rf:=by
 refine okT (N:=["one","other","both","at","beside"]) (T.fn 18 rfl) (λH Q hr nd h=>?_)
 ·obtain⟨a,c,ps,qs,r1,r2,rfl,ta,tc,hR1,hR2,hn,k⟩:=h
  have hl1:ps.length=r1.length:=hR1.1;have hl2:qs.length=r2.length:=hR2.1;refine⟨_,(af (aJ (i:=2) (bo ae))
   (af (da (ba (ai ao (ai ao ae))) (bM (K:=K) (n:=2) rfl (av (aE (i:=3)) (av (aE (i:=4)) aY))))
   (af (cX Em (Oj (gO (aD oG (qv 3) (ag (aU (K:=K)) (by rfl) T.bA aO (ai (qv 0) ae)) (az _)) (eY (aD oG (qv 4) (ag (aU (K:=K)) (by rfl) T.bA aO (ai (qv 1) ae)) (az _))))) (aq (aV (Oj (gO (aD dD (qv 4) (ag (aU (K:=K)) (by rfl) T.bA aO (ai (qv 1) ae)) (az _)) (eY (Oj (kc (aD oG (qv 3) (ag (aU (K:=K)) (by rfl) T.bA aO (ai (qv 0) ae)) (az _)) (gN (aD (zb (K:=K) hr.units0) (aT (bY (K:=K)) (by rfl) T.aW aP (ai (aR (bx (K:=K)) (qv 0) (qv 3)) ae)) (aT (bY (K:=K)) (by rfl) T.aW aP (ai (aR (bx (K:=K)) (qv 1) (qv 4)) ae)) (az _)))))))) (af (bN (bL (K:=K) (qv 2) (ai (ba (ai ao (ai (qv 3) ae))) ae)))
   (aq (f9 (i:=3) nd rfl (Fh rfl) ao iR))) (af (bN (bL (K:=K) (qv 2) (ai (ba (ai ao (ai (qv 4) ae))) ae)))
   (aq (f9 (i:=4) nd rfl (Fh rfl) ao iR))))))
   (aq (ax (qv 2)))))),?_⟩
  dsimp only[st0];nofun;refine⟨aF (by simp),λl hbn=>?_⟩;obtain⟨H1,e9,s1,(tl:H1 l=some (.lst (([]:List Addr).map Ou)))⟩:=nwR hbn (.lst []);rw[e9];nofun;refine⟨aF (by simp),λz0 hz0=>?_⟩;obtain⟨H1,e9,s1,e8,tz0⟩:=nwD s1 hz0 (.tup [Of 0,Of 0]);rw[e9];have tl:=e8 _ _ tl;refine bu tz0 ?_;dsimp only[E7];nofun;refine⟨λm σ H'=>∃(us:List Addr) (ws:List (Nat×Nat)) (i j:Nat),m=(ps.length - i)+(qs.length - j)/\Same H H'/\H' l=some (.lst (us.map Ou))/\PrAt H' us ws/\ws.length=i+j/\Mgd r1 r2 i j ws/\σ=[some (Ou a),some (Ou c),some (Ou l),some (Of (i:Nat)),some (Of (j:Nat))],⟨_,[],[],0,0,rfl,s1,tl,PrAt.nil,rfl,Mgd.nil,rfl⟩,?_⟩;rintro m σ H3 ⟨us,ws,i,j,rfl,s3,tb3,hU,hwl,hM,rfl⟩;have hil:=hM.le.1;have hjl:=hM.le.2.1;have eI:∀z:Nat,(z:Int)+1=((z+1:Nat):Int):=λz=>by lia
  nofun;apply C9 (S:=λHD=>HD=H3/\(i<ps.length\/j<qs.length));case hA=>
   intro key;refine aL (Od (s3 _ _ ta)) ?_;rw[DT];nofun;refine a9 (λg1=>?_) (λg1=>?_)
   ·skip
    nofun;refine⟨_,λ_ _ z=>z,?_⟩;generalize h9:H3=H9;exact key H9 ⟨h9.symm,.inl ⋯⟩
   nofun;refine aL (Od (s3 _ _ tc)) ?_;rw[DT];nofun;refine a9 (λg1'=>?_) (λg1'=>?_)
   ·skip
    nofun;refine⟨_,λ_ _ z=>z,?_⟩;generalize h9:H3=H9;exact key H9 ⟨h9.symm,.inr ⋯⟩
   nofun;have ei:i=r1.length:=by lia
   have ej:j=r2.length:=by lia
   rw[ei,ej]at hM;exact k l us ws H3 hbn s3 tb3 hU ⋯ hM
  case hB=>
   rintro HD ⟨rfl,hor⟩;nofun;apply DF (S1:=λHE=>HE=HD/\i<r1.length/\(j=r2.length\/lxt (r2.getD j []) (r1.getD i [])=false)) (S2:=λHE=>HE=HD/\j<r2.length/\(i=r1.length\/lxt (r2.getD j []) (r1.getD i [])=true));case hA=>
    intro key1 key2;refine aL (Od (s3 _ _ tc)) ?_;rw[DT];nofun;refine a9 (λg2=>?_) (λg2=>?_)
    ·have e2:j=qs.length:=MC (Of.inj g2)
     nofun;generalize h9:HD=H9;exact key1 H9 ⟨h9.symm,by lia,.inl ⋯⟩
    nofun;refine aL (Od (s3 _ _ ta)) ?_;rw[DT];nofun;have g2':j<qs.length:=by have:j≠qs.length:=λz=>g2 (by rw[z]);lia
    refine a9 (λg3=>?_) (λg3=>?_)
    ·have hip:i<ps.length:=by lia
     have ei:r1[i]? = some (r1[i]'(by rw[<-hR1.1];exact hip)):=DR _;have ej:r2[j]? = some (r2[j]'(by rw[<-hR2.1];exact g2')):=DR _;have t1:=s3 _ _ (hR1.2 i ps[i] _ (by simp[hip]) ei);have t2:=s3 _ _ (hR2.2 j qs[j] _ (by simp[g2']) ej);nofun;refine bJ (Od (s3 _ _ ta)) (v:=Ou ps[i]) (bg (by rw[DX];simp[hip])) ?_;nofun;refine⟨ps[i],_,rfl,.inr ⟨Oe t1,?_⟩⟩;nofun;refine bJ (Od (s3 _ _ tc)) (v:=Ou qs[j]) (bg (by rw[DX];simp[g2'])) ?_;nofun;refine⟨qs[j],_,rfl,.inr ⟨Oe t2,?_⟩⟩;refine uJ (ns:=bH _) (ms:=bH _) (Oe (by rw[<-d7];exact t1)) (Oe (by rw[<-d7];exact t2)) ?_;have ev:HT.dE (bH (r1[i]'(by rw[<-hR1.1];exact hip))) (bH (r2[j]'(by rw[<-hR2.1];exact g2')))=!lxt (r2.getD j []) (r1.getD i []):=by
      rw[HT.ko,gF ei,gF ej];rfl
     rw[ev];nofun;cases hle:lxt (r2.getD j []) (r1.getD i [])with
     | false=>
      nofun;generalize h9:HD=H9;exact key1 H9 ⟨h9.symm,by lia,.inr hle⟩
     | true=>
      nofun;generalize h9:HD=H9;exact key2 H9 ⟨h9.symm,by lia,.inr hle⟩
    ·skip
     nofun;generalize h9:HD=H9;exact key2 H9 ⟨h9.symm,by lia,.inl ⋯⟩
   case h1=>
    rintro HE ⟨rfl,hi,hc⟩;refine⟨bq tb3,?_⟩;nofun;refine⟨aF (by simp),λu hu=>?_⟩;obtain⟨H4,e9,s4,(tu:H4 u=some (.tup [Of ((0:Nat):Int),Of (i:Nat)]))⟩:=nwR hu (.tup [Of 0,Of (i:Nat)]);rw[e9];nofun;refine aZ (s4 _ _ tb3) (by rw[DT,hU.1];exact au ⋯) ?_;nofun;exact⟨(ps.length - (i+1))+(qs.length - j),by lia,us++[u],ws++[(0,i)],i+1,j,rfl,(s3.trans s4).own hbn,by rw[aj,D0];rfl,((hU.same s4).snoc tu).own (s4 _ _ tb3),by rw[D8,EV];lia,hM.one hi hc,by rw[<-eI];rfl⟩
   case h2=>
    rintro HE ⟨rfl,hj,hc⟩;refine⟨bq tb3,?_⟩;nofun;refine⟨aF (by simp),λu hu=>?_⟩;obtain⟨H4,e9,s4,(tu:H4 u=some (.tup [Of ((1:Nat):Int),Of (j:Nat)]))⟩:=nwR hu (.tup [Of 1,Of (j:Nat)]);rw[e9];nofun;refine aZ (s4 _ _ tb3) (by rw[DT,hU.1];exact au ⋯) ?_;nofun;exact⟨(ps.length - i)+(qs.length - (j+1)),by lia,us++[u],ws++[(1,j)],i,j+1,rfl,(s3.trans s4).own hbn,by rw[aj,D0];rfl,((hU.same s4).snoc tu).own (s4 _ _ tb3),by rw[D8,EV];lia,hM.two hj hc,by rw[<-eI];rfl⟩
def Ck:Sp:=λvs H Q _=>∃(r a c:Addr) (ps:List Addr) (rss:List (List Nat)) (xs ys:List Nat) (f m e:Nat),vs=[.ref r,.ref a,.ref c]/\H r=some (.lst (ps.map Ou))/\RowsT H ps rss/\H a=some (.lst (NV xs))/\H c=some (.lst (NV ys))/\Seg rss f m xs/\Seg rss m e ys/\f<=m/\m<=e/\e<=rss.length/\rss.length<=200/\
 ∀(l:Addr) (zs:List Nat) H',H l=none->Same H H'->H' l=some (.lst (NV zs))->Seg rss f e zs->Q (.ref l) H'
theorem gu (T:Tx K mg t):FnOk P t.wd K mg base CX0 2 (t.f 19) (t.d 19) ["rows","one","other"] Ck:=by
 refine okT (N:=["rows","one","other","pairs","places"]) (T.fn 19 rfl) (λH Q hr nd h=>?_)
 ·obtain⟨r,a,c,ps,rss,xs,ys,f,m,e,rfl,tr,hR,ta,tc,hsx,hsy,hfm,hme,hel,hrn,k⟩:=h
  have hpl:ps.length=rss.length:=hR.1;have hx:∀x∈xs,x<rss.length:=λx hx=>by have:=hsx.mem hx;lia
  have hy:∀x∈ys,x<rss.length:=λx hx=>by have:=hsy.mem hx;lia
  have hn:xs.length+ys.length<=200:=by have:=hsx.len;have:=hsy.len;lia
  ·refine⟨_,(af (aJ (i:=3) (aI (rg T) hr (T.fn 18 rfl) (ai (bj (N:=["place","rows"]) (tgs:=["place"]) (frs:=["rows"]) (ix:=[0]) ⟨rfl,by decide +kernel,rfl,by decide +kernel,rfl,rfl,⟨⟨rfl,rfl,_,rfl,rfl⟩,D3⟩,⟨rfl,D3⟩,rfl⟩ rfl (aS (K:=K) (qv 1)) (λ_ _ _ _=>(aE (i:=0))) (λ_ _ _ _=>(aR (bx (K:=K)) (qv 1) (qv 0)))) (ai (bj (N:=["place","rows"]) (tgs:=["place"]) (frs:=["rows"]) (ix:=[0]) ⟨rfl,by decide +kernel,rfl,by decide +kernel,rfl,rfl,⟨⟨rfl,rfl,_,rfl,rfl⟩,D3⟩,⟨rfl,D3⟩,rfl⟩ rfl (aS (K:=K) (qv 2)) (λ_ _ _ _=>(aE (i:=0))) (λ_ _ _ _=>(aR (bx (K:=K)) (qv 1) (qv 0)))) ae))))
   (af (aJ (i:=4) (ba (ai (qv 1) (ai (qv 2) ae))))
   (aq (ax (bj (N:=["which","at","places"]) (tgs:=["which","at"]) (frs:=["places"]) (ix:=[4]) ⟨rfl,by decide +kernel,rfl,by decide +kernel,rfl,rfl,⟨⟨rfl,rfl,_,rfl,rfl⟩,D3⟩,⟨rfl,D3⟩,rfl⟩ rfl (aS (K:=K) (qv 3)) (λ_ _ _ _=>(bM (K:=K) (n:=2) rfl (av (aE (i:=0)) (av (aE (i:=1)) aY)))) (λ_ _ _ _=>(aR (bx (K:=K)) (aR (eZ (K:=K)) (qv 2) (qv 0)) (qv 1)))))))),?_⟩
   dsimp only[st0];nofun;refine⟨a,rfl,⟨_,Od ta⟩,bf (a:=a) (vs:=NV xs) (λi zs σ H'=>H'=H/\i<=xs.length/\(∃us:List Addr,zs=us.map Ou/\us.length=i/\RowsT H us ((xs.take i).map λx=>rss.getD x []))/\∃v,σ=[v,some (Ou r)]) (by rw[aC];exact au ⋯) (λi zs σ H' h=>by obtain⟨_,_,⟨us,rfl,e,_⟩,_⟩:=h;rw[DT,e]) (λi zs σ H' h=>by rw[h.1];exact Od ta) ⟨rfl,Ec _,⟨[],rfl,rfl,rfl,λi p z h=>by simp at h⟩,none,rfl⟩ ?_ ?_⟩
   ·rintro i zs σ H' x hx' ⟨rfl,_,⟨us,rfl,hul,hU⟩,v,rfl⟩
    have hil:=br hx';obtain⟨q,rfl,hq,hqm,hi⟩:=aH hx';have hqn:=hx q hqm;have hqp:q<ps.length:=by lia
    have eq':rss[q]? = some rss[q]:=by simp[hqn]
    have eg:rss.getD q []=rss[q]:=by rw[DS,eq'];rfl
    nofun;refine bJ (Od tr) (v:=Ou ps[q]) (bg (by rw[DX];simp[hqp])) ?_;refine Ol hil ⟨rfl,hi,⟨us++[ps[q]],by rw[D0];rfl,by simp[hul],?_⟩,_,rfl⟩;rw[D7,hq,D0];show RowsT _ _ (_++[rss.getD q []])
    rw[eg];exact hU.snoc (hR.2 q ps[q] _ (by simp[hqp]) eq')
   rintro zs σ H1 ⟨e1,_,⟨us,rfl,hul,hU⟩,v,rfl⟩ l1 hl1;subst e1;rw[aC]at hul hU;rw[DW (DY _)]at hU;obtain⟨H2,e9,s2,tl1⟩:=nwR hl1 (.lst (us.map Ou));rw[e9];have tc2:=s2 _ _ tc;nofun;refine⟨c,rfl,⟨_,Od tc2⟩,bf (a:=c) (vs:=NV ys) (λi zs σ H'=>H'=H2/\i<=ys.length/\(∃vs:List Addr,zs=vs.map Ou/\vs.length=i/\RowsT H2 vs ((ys.take i).map λx=>rss.getD x []))/\∃v,σ=[v,some (Ou r)]) (by rw[aC];exact au ⋯) (λi zs σ H' h=>by obtain⟨_,_,⟨us,rfl,e,_⟩,_⟩:=h;rw[DT,e]) (λi zs σ H' h=>by rw[h.1];exact Od tc2) ⟨rfl,Ec _,⟨[],rfl,rfl,rfl,λi p z h=>by simp at h⟩,none,rfl⟩ ?_ ?_⟩
   ·rintro i zs σ H' x hx' ⟨rfl,_,⟨vs,rfl,hvl,hV⟩,v,rfl⟩
    have hil:=br hx';obtain⟨q,rfl,hq,hqm,hi⟩:=aH hx';have hqn:=hy q hqm;have hqp:q<ps.length:=by lia
    have eq':rss[q]? = some rss[q]:=by simp[hqn]
    have eg:rss.getD q []=rss[q]:=by rw[DS,eq'];rfl
    nofun;refine bJ (Od (s2 _ _ tr)) (v:=Ou ps[q]) (bg (by rw[DX];simp[hqp])) ?_;refine Ol hil ⟨rfl,hi,⟨vs++[ps[q]],by rw[D0];rfl,by simp[hvl],?_⟩,_,rfl⟩;rw[D7,hq,D0];show RowsT _ _ (_++[rss.getD q []])
    rw[eg];exact hV.snoc ((hR.same s2).2 q ps[q] _ (by simp[hqp]) eq')
   rintro zs σ H3 ⟨e3,_,⟨vs,rfl,hvl,hV⟩,v,rfl⟩ l2 hl2;subst e3;rw[aC]at hvl hV;rw[DW (DY _)]at hV;obtain⟨H4,e9,s34,tl2⟩:=nwR hl2 (.lst (vs.map Ou));rw[e9];have s4:=s2.trans s34;nofun;refine⟨l1,l2,us,vs,_,_,rfl,s34 _ _ tl1,tl2,hU.same s4,hV.same s34,by lia,λpl qs ws H5 hpl0 s5 tpl hP hwl hM=>?_⟩;rw[DT,DT]at hM;have hok:=hM.le.2.2;have hul':us.length=xs.length:=hul;have hvl':vs.length=ys.length:=hvl;have s05:=s4.trans s5;nofun;refine⟨aF (by simp),λtt htt=>?_⟩;obtain⟨H6,e9,s56,ttt⟩:=nwR htt (.tup [Ou a,Ou c]);rw[e9];have s06:=s05.trans s56;have tpl6:=s56 _ _ tpl;have P6:=hP.same s56;have hqw:qs.length=ws.length:=hP.1;nofun;refine⟨pl,rfl,⟨_,Od tpl6⟩,bf (a:=pl) (vs:=qs.map Ou) (λi zs σ H'=>H'=H6/\(zs=NV ((ws.take i).map (gb xs ys))/\i<=ws.length)/\∃v w,σ=[v,w,some (Ou tt)]) (by rw[DT];exact au ⋯) (λi zs σ H' h=>by rw[h.2.1.1,aC,DT,Ee];have:=h.2.1.2;lia) (λi zs σ H' h=>by rw[h.1];exact Od tpl6) ⟨rfl,⟨rfl,Ec _⟩,none,none,rfl⟩ ?_ ?_⟩
   ·rintro i zs σ H' x hx' ⟨rfl,⟨rfl,hnl⟩,v,w,rfl⟩
    have hil:=br hx';obtain⟨q,rfl,hq,_,hi⟩:=aH hx';have hiw:i<ws.length:=by lia
    have tq:=P6.2 i q ws[i] hq (by simp[hiw]);have hw:=hok ws[i] (D1 hiw);have etk:(ws.take (i+1)).map (gb xs ys)=(ws.take i).map (gb xs ys)++[gb xs ys ws[i]]:=by rw[D7,DR hiw,D0];rfl
    generalize ws[i]=w9 at tq hw etk;obtain⟨w1,w2⟩:=w9;refine bu tq ?_;dsimp only[E7];rcases hw with⟨h1,h2⟩|⟨h1,h2⟩
    ·have h1:w1=0:=h1
     have h2:w2<xs.length:=by have:=h2;rw[DT]at this;exact this
     subst h1;have hw2:w2<xs.length:=by lia
     nofun;refine bJ (Od (s06 _ _ ta)) (gm rfl (o:=xs[w2]) (by simp[hw2])) ?_;refine Ol hil ⟨rfl,⟨?_,hiw⟩,_,_,rfl⟩;rw[etk,<-bU];have ep:gb xs ys (0,w2)=xs[w2]:=by unfold gb;simp[hw2]
     rw[ep]
    ·have h1:w1=1:=h1
     have h2:w2<ys.length:=by have:=h2;rw[DT]at this;exact this
     subst h1;have hw2:w2<ys.length:=by lia
     nofun;refine bJ (Od (s06 _ _ tc)) (gm rfl (o:=ys[w2]) (by simp[hw2])) ?_;refine Ol hil ⟨rfl,⟨?_,hiw⟩,_,_,rfl⟩;rw[etk,<-bU];have ep:gb xs ys (1,w2)=ys[w2]:=by unfold gb;simp[hw2]
     rw[ep]
   ·rintro zs σ H7 ⟨e7,⟨rfl,hnl⟩,v,w,rfl⟩ l hl
    subst e7;rw[DT,DW ⋯];exact k l _ _ (s06.free hl) (s06.new hl) aj (Mgd.seg hsx hsy hfm hme hM)
def Cm:Sp:=λvs H Q _=>∃(a:Addr) (rss:List (List Nat)) (w b:Nat),vs=[.ref a]/\Rws H a rss w b/\∀(t o st:Addr) (os:List Nat) (qs:List Addr) H',H t=none->H o=none->Same H H'->H' t=some (.tup [.ref o,.ref st])->H' o=some (.lst (NV os))->OrdR rss os->H' st=some (.lst (qs.map Ou))->TrAt H' qs (eL (b6 rss rss.length))->(eL (b6 rss rss.length)).length<=200->Q (.ref t) H'
theorem oy (T:Tx K mg t):FnOk P t.wd K mg base CX0 3 (t.f 22) (t.d 22) ["rows"] Cm:=by
 refine okT (N:=["rows","order","steps","first","middle","last"]) (T.fn 22 rfl) (λH Q hr nd h=>?_)
 ·obtain⟨a,rss,w,b,rfl,⟨⟨ps,ta,hR⟩,hG,hn,hw,hb⟩,k⟩:=h
  have hpl:ps.length=rss.length:=hR.1
  ·refine⟨_,(af (aJ (i:=1) (jx rfl rfl T.bZ rfl T.bW (ai (ag (aU (K:=K)) (by rfl) T.bA aO (ai (qv 0) ae)) ae)))
   (af (aJ (i:=2) (aR (eZ (K:=K)) (aI (dC T) hr (T.fn 21 rfl) (ai (aI (qV T) hr (T.fn 17 rfl) (ai (qv 0) ae)) ae)) ao))
   (af (cf Em rfl (aS (K:=K) (qv 2)) (bM (K:=K) (n:=3) rfl (av (aE (i:=3)) (av (aE (i:=4)) (av (aE (i:=5)) aY)))) (aq (uL (aI (gu T) hr (T.fn 19 rfl) (ai (qv 0) (ai (cG (ke (K:=K)) (qv 1) (bT (qv 3)) (bT (qv 4))) (ai (cG (ke (K:=K)) (qv 1) (bT (qv 4)) (bT (qv 5))) ae)))) (qv 1) (qv 3) (qv 5))))
   (aq (ax (ba (ai (qv 1) (ai (qv 2) ae)))))))),?_⟩
   dsimp only[st0];nofun;refine aL (Od ta) ?_;rw[DT,hpl];nofun;refine⟨rss.length,rfl,by lia,λo ho=>?_⟩;rw[jy];have er:((DZ rss.length).map λi=>0+i)=DZ rss.length:=by simp
   rw[er];obtain⟨H1,e9,s1,to1⟩:=nwR ho (.lst (NV (DZ rss.length)));rw[e9];nofun;refine⟨a,ps,rss,rfl,s1 _ _ ta,hR.same s1,hn,λl H2 hl s2 tl=>?_⟩;have hrl:=ie rss rss.length;have hrs:=fu rss rss.length;obtain⟨al,aok⟩:=i4 _ (b6 rss rss.length) (DY _);nofun;refine⟨l,b6 rss rss.length,rfl,.inl tl,by lia,λt st qs H3 hst s3 tt ts T3=>?_⟩;have s13:=s2.trans s3;have to3:=s13 _ _ to1;have s03:=s1.trans s13;have hso:st≠o:=λe=>by rw[e,s2 _ _ to1]at hst;cases hst
   have hql:=T3.1;nofun;refine⟨st,rfl,⟨_,Od ts⟩,cF (a:=st) (xs:=qs.map Ou) (λi σ H'=>Same H H'/\H' st=some (.lst (qs.map Ou))/\TrAt H' qs (eL (b6 rss rss.length))/\(∃os:List Nat,H' o=some (.lst (NV os))/\os.length=rss.length/\RnS rss rss.length ((eL (b6 rss rss.length)).drop i) os)/\∃v3 v4 v5,σ=[some (Ou a),some (Ou o),some (Ou st),v3,v4,v5]) ⟨s03,ts,T3,⟨_,to3,by simp,tF rss rss.length⟩,_,_,_,rfl⟩ (λi σ H' _ h=>Od h.2.1) ?_ ?_⟩
   ·rintro i x σ H4 hx ⟨s4,ts4,T4,⟨os,to4,hol,hrn⟩,v3,v4,v5,rfl⟩
    obtain⟨q,rfl,hq,_,hi⟩:=aH hx;have hia:i<(eL (b6 rss rss.length)).length:=by lia
    have tq:=T4.2 i q _ hq (DR hia);have hok:=aok _ (D1 hia);rw[Gq hia]at hrn;generalize (eL (b6 rss rss.length))[i]=s9 at tq hok hrn;obtain⟨f,m,e⟩:=s9;have tq:H4 q=some (.tup [.int (f:Nat),.int (m:Nat),.int (e:Nat)]):=tq;have hok:f<=m/\m<=e/\e<=(b6 rss rss.length).sum:=hok;obtain⟨_,_,_,g1,g2,hnx⟩:=hrn;have g1:Seg rss f m ((os.drop f).take (m - f)):=g1;have g2:Seg rss m e ((os.drop m).take (e - m)):=g2;have hnx:∀x,Seg rss f e x->RnS rss rss.length ((eL (b6 rss rss.length)).drop (i+1)) (os.take f++x++os.drop e):=hnx
    rw[hrs]at hok;refine dX tq ?_;dsimp only[E7];nofun;refine⟨_,rfl,?_⟩;nofun;refine⟨_,rfl,?_⟩;refine qS to4 λl1 H5 hl1 s5 tl1=>?_
    rw[qi os ⋯ ⋯]at tl1;nofun;refine⟨_,rfl,?_⟩;nofun;refine⟨_,rfl,?_⟩;refine qS (s5 _ _ to4) λl2 H6 hl2 s6 tl2=>?_
    rw[qi os ⋯ ⋯]at tl2;have c1:((os.drop f).take (m - f)).length=m - f:=by rw[Ee,EO];lia
    have c2:((os.drop m).take (e - m)).length=e - m:=by rw[Ee,EO];lia
    have s46:=s5.trans s6;nofun;refine⟨a,l1,l2,ps,rss,_,_,f,m,e,rfl,s46 _ _ (s4 _ _ ta),(hR.same s4).same s46,s6 _ _ tl1,tl2,g1,g2,hok.1,hok.2.1,hok.2.2,hn,λz zs H7 hz s7 tz hzs=>?_⟩;have hzl:=hzs.len;have s47:=s46.trans s7;have to7:=s47 _ _ to4;have hzo:o≠z:=λe=>by rw[<-e,s46 _ _ to4]at hz;cases hz
    nofun;refine⟨o,z,_,_,_,_,rfl,rfl,rfl,rfl,to7,tz,hzo,by lia,by lia,by rw[aC];lia,aF (by rw[aC,aC];lia),?_⟩;have espl:(NV os).take ((f:Nat):Int).toNat++NV zs++(NV os).drop ((e:Nat):Int).toNat=NV (os.take f++zs++os.drop e):=by
     rw[E3,E3];unfold NV;rw[D0,D0,Gi,GG]
    rw[espl];exact⟨(s4.trans s47).own ho,by rw[aB hso];exact s47 _ _ ts4,(T4.same s47).own to7,⟨_,aj,by rw[D8,D8,Ee,EO];lia,hnx zs hzs⟩,_,_,_,rfl⟩
   ·rintro σ H4 ⟨s4,ts4,T4,⟨os,to4,hol,hrn⟩,v3,v4,v5,rfl⟩
    nofun;refine⟨aF (by simp),λt2 ht2=>?_⟩;rw[DT,List.drop_eq_nil_of_le ⋯]at hrn;exact k t2 o st os qs _ (s4.free ht2) ho (s4.new ht2) aj (by rw[aB (ay to4 ht2)];exact to4) ⟨by have:=hrn.perm;rwa [Io,<-KE]at this,hrn.sort⟩ (by rw[aB (ay ts4 ht2)];exact ts4) (T4.same ((Oi H4).new ht2)) ⋯
theorem t9{t m':Nat}(hb:2<=b)(h1:t<b ^ m)(h2:0<m->b ^ (m - 1)<=t)(h3:t<b ^ m')(h4:0<m'->b ^ (m' - 1)<=t):m=m':=by
 rcases Fn m m' with h|h|h
 ·have:=KH (n:=b) ⋯ (show m<=m' - 1 by lia)
  have:=h4 ⋯;lia
 ·exact h
 ·have:=KH (n:=b) ⋯ (show m'<=m - 1 by lia)
  have:=h2 ⋯;lia
theorem oz{ns:List Int}{m':Nat}{zs':List Nat}(hb:2<=b)(h:Spelt ns b zs m)(h':Spelt ns b zs' m'):zs=zs'/\m=m':=by
 rcases h with⟨rfl,rfl,rfl⟩|⟨lo,hi,a1,a2,a3,rfl,a4,a5,_⟩
 ·rcases h' with⟨_,rfl,rfl⟩|⟨lo,hi,a1,_⟩
  ·exact⟨rfl,rfl⟩
  ·cases a1
 ·rcases h' with⟨rfl,_,_⟩|⟨lo',hi',c1,c2,c3,rfl,c4,c5,_⟩
  ·cases a1
  ·have e1:lo=lo':=by have:=(a3 lo' c1).1;have:=(c3 lo a1).1;lia
   have e2:hi=hi':=by have:=(a3 hi' c2).2;have:=(c3 hi a2).2;lia
   subst e1 e2;exact⟨rfl,t9 hb a4 a5 c4 c5⟩
theorem kO{ns:List Int}{w w':Nat}{rss rss':List (List Nat)}(hb:2<=b)(h:zV ns b rss w)(h':zV ns b rss' w'):rss=rss'/\w=w':=by
 obtain⟨zs,hS,rfl⟩:=h;obtain⟨zs',hS',rfl⟩:=h';obtain⟨rfl,rfl⟩:=oz hb hS hS';exact⟨rfl,rfl⟩
theorem rh{zs:List Str}{m':Nat}(h:xm zs m)(h':xm zs m'):m=m':=by
 rcases h.2 with⟨rfl,rfl⟩|⟨z,hz,e⟩
 ·rcases h'.2 with⟨_,rfl⟩|⟨z,hz,_⟩
  ·rfl
  ·cases hz
 ·rcases h'.2 with⟨rfl,_⟩|⟨z',hz',e'⟩
  ·cases hz
  ·have:=h.1 z' hz';have:=h'.1 z hz;lia
theorem Kd.rows.uniq{k:Kd}{w w' c':Nat}{rss rss':List (List Nat)}(hb:2<=b)(h:k.rows b rss w c)(h':k.rows b rss' w' c'):rss=rss'/\w=w'/\c=c':=by
 cases k with
 | nu ns=>
  obtain⟨h,rfl⟩:=h;obtain⟨h',rfl⟩:=h';obtain⟨rfl,rfl⟩:=kO hb h h';exact⟨rfl,rfl,rfl⟩
 | pa tb=>
  obtain⟨h,rfl⟩:=h;obtain⟨h',rfl⟩:=h';obtain⟨rfl,rfl⟩:=kO hb h h';exact⟨rfl,rfl,rfl⟩
 | te zs=>
  obtain⟨⟨h,_,rfl⟩,rfl⟩:=h;obtain⟨⟨h',_,rfl⟩,rfl⟩:=h';obtain rfl:=rh h h';exact⟨rfl,rfl,rfl⟩
theorem eQ{a b:List Nat}(h:bH a=bH b):a=b:=(Le (λx y e=>by have e:(x:Int)=(y:Int):=e;lia)).mp h
theorem d8(p:List Nat):(bH p).map J7=p:=by
 unfold bH;rw[ED];conv=>rhs;rw[<-List.map_id p]
 exact Eo λx _=>rfl
theorem rj(rss:List (List Nat))(c:Nat)(p:List Nat):(bgs rss c).count (bH p)=(dN rss c p).length:=by
 unfold bgs dN;rw[GV,Gf,DT];congr 1;refine Jm λr _=>?_
 show(bH (r.take c) == bH p)=decide (r.take c=p)
 by_cases h:r.take c=p
 ·rw[h,decide_eq_true rfl];exact beq_self_eq_true _
 ·rw[decide_eq_false h];exact beq_eq_false_iff_ne.mpr λz=>h (eQ z)
theorem kP{bs:List (List Int)}{zs:List (List Int×Int)}(h:Bgn bs zs):(zs.map (·.1)).Nodup:=h.1
theorem ua{rss:List (List Nat)}{w:Nat}{zs':List (List Int×Int)}{p:List Nat}(hw:∀r∈rss,r.length=w)(hc:c<w)(hp:p.length=c)(b1:Bgn (bgs rss (c+1)) zs'):1<(cV zs').count (bH p)↔Par (bD (dN rss c p) c):=by
 have dl:∀q:List Nat,q.length=w->(bH (q.take (c+1))).dropLast=bH (q.take c):=λq hq=>by
  unfold bH;rw[<-Lw,Kv,Ee,Ko];congr 2;lia
 have e1:(cV zs').count (bH p)=((zs'.map (·.1)).filter λq=>q.dropLast == bH p).length:=by
  unfold cV;rw[GV,Gf,Gf,DT,DT];rfl
 have e2:(bD (dN rss c p) c).map (λf=>bH (p++[f]))=(dN rss c p).map λr=>bH (r.take (c+1)):=by
  unfold bD;rw[ED];refine Eo λr hr=>?_
  obtain⟨h1,h2⟩:=EI.mp hr;show bH (p++[r.getD c 0])=_
  rw[(kF (hw r h1) hc hp).mpr ⟨of_decide_eq_true h2,rfl⟩]
 rw[e1,<-wQ (f:=λf=>bH (p++[f])) λa b e=>(KN (JS (eQ e))).1,e2];refine ik ((kP b1).filter _) λq=>?_
 rw[EI,b1.2.1 q,D4];constructor
 ·rintro⟨h1,h2⟩
  obtain⟨r,hr,rfl⟩:=D4.mp h1;refine⟨r,EI.mpr ⟨hr,decide_eq_true ?_⟩,rfl⟩;rw[dl r (hw r hr)]at h2;exact eQ (eq_of_beq h2)
 ·rintro⟨r,hr,rfl⟩
  obtain⟨h1,h2⟩:=EI.mp hr;refine⟨D4.mpr ⟨r,h1,rfl⟩,?_⟩;rw[dl r (hw r h1),of_decide_eq_true h2];exact beq_self_eq_true _
theorem rk{rss:List (List Nat)}{w:Nat}{zs zs':List (List Int×Int)}(hw:∀r∈rss,r.length=w)(hc:c<w)(b0:Bgn (bgs rss c) zs)(b1:Bgn (bgs rss (c+1)) zs'):ow zs zs'=mvL rss c:=by
 have hz:∀z∈zs,∃r∈rss,z.1=bH (r.take c):=λz h=>by
  obtain⟨r,hr,e⟩:=D4.mp ((b0.2.1 z.1).mp (D4.mpr ⟨z,h,rfl⟩));exact⟨r,hr,e.symm⟩
 have hl:∀r∈rss,(r.take c).length=c:=λr hr=>by rw[Ee,hw r hr];lia
 have e0:mvL rss c=((pfx rss c).map λp=>mvG c (dN rss c p)).sum:=by
  unfold mvL;rw[m6 hw c ⋯,ED];rfl
 have e1:ow zs zs'=((zs.map λz=>z.1.map J7).map λp=>mvG c (dN rss c p)).sum:=by
  unfold ow;rw[ED];congr 1;refine Eo λz h=>?_
  obtain⟨r,hr,e⟩:=hz z h;have e2:=b0.2.2 z h;rw[e]at e2;rw[rj]at e2;show(if 1<(cV zs').count z.1 then z.2 else 0)=mvG c (dN rss c (z.1.map J7))
  rw[e,d8,e2];have h1:=ua hw hc (hl r hr) b1;have h2:=kys_par (os:=bD (dN rss c (r.take c)) c);unfold mvG;by_cases h3:Par (bD (dN rss c (r.take c)) c)
  ·rw[if_pos (h1.mpr h3),if_pos (h2.mpr h3)]
  ·rw[if_neg (λz=>h3 (h1.mp z)),if_neg (λz=>h3 (h2.mp z))]
 rw[e0,e1];refine fE ?_ (kH c) λp hp=>?_
 ·rw[show(zs.map λz=>z.1.map J7)=(zs.map (·.1)).map (Nj J7)by rw[ED];rfl]
  refine Gj.mpr ((kP b0).imp_of_mem λ{a b} ha hb hne e=>hne ?_);obtain⟨z,h,rfl⟩:=D4.mp ha;obtain⟨y,g,rfl⟩:=D4.mp hb;obtain⟨r,hr,e3⟩:=hz z h;obtain⟨q,hq,e4⟩:=hz y g;rw[e3,e4,d8,d8]at e;rw[e3,e4,e]
 ·unfold mvG at hp
  have h3:Par (bD (dN rss c p) c):=kys_par.mp (FS λz=>hp (if_neg z));obtain⟨x,hx,y,hy,hne⟩:=h3;obtain⟨r,hr,rfl⟩:=D4.mp hx;obtain⟨q,hq,rfl⟩:=D4.mp hy;have h4:1<(dN rss c p).length:=by
   match e:dN rss c p,hr,hq with
   | [a],hr,hq=>exact absurd (by rw[D5.mp hr,D5.mp hq]) hne
   | a::b::l,_,_=>simp
  obtain⟨h5,h6⟩:=EI.mp hr;have h7:r.take c=p:=of_decide_eq_true h6;refine⟨λ_=>qJ hw c ⋯ p (by rw[<-h7];exact hl r h5) h4,λ_=>?_⟩;obtain⟨z,hz1,hz2⟩:=D4.mp ((b0.2.1 (bH p)).mpr (D4.mpr ⟨r,h5,by rw[h7]⟩));exact D4.mpr ⟨z,hz1,by rw[show z.1=_ from hz2,d8]⟩
noncomputable def ncl(rss:List (List Nat))(w:Nat):Nat:=if rss=[]then 0 else w
theorem oA{rss:List (List Nat)}{w:Nat}{zss:List (List (List Int×Int))}(hG:uX rss w b)(h:BgF rss w zss):fI zss=xM rss (ncl rss w):=by
 unfold fI xM;have hl:zss.length - 1=ncl rss w:=by rw[h.1];unfold ncl;lia
 rw[hl];congr 1;refine Eo λc hc=>?_
 have hc:=EF.mp hc;have hcw:c<w:=by unfold ncl at hc;split at hc<;>lia
 have g:∀d,d<zss.length->zss[d]? = some (zss.getD d []):=λd hd=>by rw[DS,DR hd];rfl
 exact rk (λr hr=>(hG r hr).1) hcw (h.2 c _ (g c ⋯)) (h.2 (c+1) _ (g (c+1) ⋯))
def xO (wy:Str) (rss:List (List Nat)) (w b:Nat) (m:Int):Prop:=(wy = "last"/\m=(lP rss w b:Nat))\/(wy = "first"/\m=xM rss (ncl rss w))\/(wy = "runs"/\m=ox rss)
theorem ub{rss:List (List Nat)}{C:Nat}{os:List Nat}{st us:List cA}(h:Fst rss C os st us):(∀s∈us,act C s=true)/\∀s∈st,s.1<=s.2.1:=by
 have le:∀s:cA,act C s=true->s.1<=s.2.1:=λs hs=>by
  unfold act at hs;simp at hs;lia
 have fl:∀{xs:List cA},∀s∈(xs.filter (act C)).reverse,act C s=true:=λs hs=>(EI.mp (Ft.mp hs)).2
 induction h with
 | start=>exact⟨λs hs=>(EI.mp hs).2,λs hs=>nomatch hs⟩
 | step _ _ _ ih=>
  refine⟨λs hs=>?_,λs hs=>?_⟩
  ·rcases Et.mp hs with g|g
   ·exact ih.1 s (EZ _ g)
   ·exact fl s g
  ·rcases Et.mp hs with g|g
   ·exact ih.2 s g
   ·exact le s (ih.1 s (Eg _ g))
 | stay _ _ ih=>
  refine⟨λs hs=>?_,ih.2⟩;rcases Et.mp hs with g|g
  ·exact ih.1 s (EZ _ g)
  ·exact fl s g
theorem rl{rss:List (List Nat)}{w:Nat}{os:List Nat}{sts:List cA}(hG:uX rss w b)(hb:b<=64)(h:Fst rss (if rss=[]then 0 else w) os sts []):(sts.map λs=>((s.2.1:Int) - (s.1:Int))).sum=xM rss (ncl rss w):=by
 have hb2:∀r∈rss,∀x∈r,x<64:=λr hr x hx=>El ((hG r hr).2 x hx) hb
 obtain⟨_,e⟩:=h.sum (φ:=λn=>(n:Int)) hb2;have e0:Uw (λn=>(n:Int)) rss (if rss=[]then 0 else w) os []=0:=rfl;rw[e0,Lf]at e;have e1:=uS (φ:=λn=>(n:Int)) hb2 (if rss=[]then 0 else w) 0;have e2:((oH rss 0).map (Tw (λn=>(n:Int)) (if rss=[]then 0 else w) 0)).sum=Tw (λn=>(n:Int)) (if rss=[]then 0 else w) 0 rss:=by
  show([rss].map _).sum=_
  simp
 rw[e2]at e1;have e3:(sts.map λs=>((s.2.1:Int) - (s.1:Int)))=sts.map λs=>((s.2.1 - s.1:Nat):Int):=Eo λs hs=>by
  have:=(ub h).2 s hs;lia
 rw[e3];show Sw (λn=>(n:Int)) sts=_
 rw[e,e1];unfold xM ncl;congr 1;refine Eo λk hk=>?_
 rw[Ld];rfl
def fJ(wy:Str):Sp:=λvs H Q _=>∃(a:Addr) (rss:List (List Nat)) (w b:Nat),vs=[.ref a,.int b]/\Rws H a rss w b/\
 ∀(t o:Addr) (os:List Nat) (m:Int) H',H t=none->H o=none->Same H H'->H' t=some (.tup [.ref o,.int m])->H' o=some (.lst (NV os))->OrdR rss os->xO wy rss w b m->Q (.ref t) H'
theorem kQ (T:Tx K mg t):FnOk P t.wd K mg base CX0 4 (t.f 35) (t.d 35) ["rows","base"] (fJ "last"):=by
 refine okT (N:=["rows","base","order","steps"]) (T.fn 35 rfl) (λH Q hr nd h=>?_)
 ·obtain⟨a,rss,w,b,rfl,hW,k⟩:=h
  refine⟨_,(af (da (aI (kN T) hr (T.fn 11 rfl) (ai (qv 0) (ai (qv 1) ae))) (bM (K:=K) (n:=2) rfl (av (aE (i:=2)) (av (aE (i:=3)) aY))))
   (aq (ax (ba (ai (qv 2) (ai (ag (gP (K:=K) rfl) (by rfl) T.iL ir (ai (bj (N:=["column","behind"]) (tgs:=["column","behind"]) (frs:=[]) (ix:=[]) ⟨rfl,by decide +kernel,rfl,by decide +kernel,rfl,rfl,D3,D3,rfl⟩ rfl (aS (K:=K) (qv 3)) (λ_ _ _ _=>(bM (K:=K) (n:=2) rfl (av (aE (i:=0)) (av (aE (i:=1)) aY)))) (λ_ _ _ _=>(ag (aU (K:=K)) (by rfl) T.bA aO (ai (qv 1) ae)))) ae)) ae)))))),?_⟩
  dsimp only[st0];nofun;refine⟨a,rss,w,b,rfl,hW,λt o st qs os H1 tt to hO ts hS hq hcf _ hon s1=>?_⟩;refine bu tt ?_;dsimp only[E7];nofun;refine⟨st,rfl,⟨_,Od ts⟩,bf (a:=st) (vs:=qs.map Ou) (λi ys σ H'=>H'=H1/\(∃ns:List Int,ys=ns.map Of/\ns.length=i/\ns.sum=(i:Int)*(rss.length:Int))/\∃v w,σ=[v,w]) (by rw[DT];exact au ⋯) (λi ys σ H' h=>by obtain⟨_,⟨ns,rfl,e,_⟩,_⟩:=h;rw[DT,e]) (λi ys σ H' h=>by rw[h.1];exact Od ts) ⟨rfl,⟨[],rfl,rfl,by simp⟩,none,none,rfl⟩ ?_ ?_⟩
  ·rintro i ys σ H' x hx ⟨rfl,⟨ns,rfl,hnl,hsm⟩,v,w,rfl⟩
   have hil:=br hx;obtain⟨q,rfl,_,hq,_⟩:=aH hx;obtain⟨c,l,ms,tq,tl,_,hml⟩:=hS q hq;refine bu tq ?_;dsimp only[E7];nofun;refine aL (Od tl) ?_;exact Ol hil ⟨rfl,⟨ns++[_],by rw[D0];rfl,by simp[hnl],by rw[Fd,hsm,aC,hml];show _+((rss.length:Int)+0)=_;rw[show((i+1:Nat):Int)=(i:Int)+1 from rfl,Int.add_mul];lia⟩,_,_,rfl⟩
  rintro ys σ H2 ⟨rfl,⟨ns,rfl,hnl,hsm⟩,v,w,rfl⟩ z hz;obtain⟨H3,e9,s2,tz⟩:=nwR hz (.lst (ns.map Of));rw[e9];nofun;refine fY (Od tz) ?_;nofun;refine⟨aF (by simp),λt2 ht2=>?_⟩;have to3:=s2 _ _ to;exact k t2 o os _ _ ((s1.trans s2).free ht2) hon ((s1.trans s2).new ht2) aj (by rw[aB (ay to3 ht2)];exact to3) hO (.inl ⟨rfl,by rw[hsm,DT,hcf];unfold lP;rw[ly (λc hc o ho=>i8 hW.2.1 hc o ho)];rw[GJ]⟩)
theorem jV (T:Tx K mg t):FnOk P t.wd K mg base CX0 4 (t.f 36) (t.d 36) ["rows","base"] (fJ "first"):=by
 refine okT (N:=["rows","base","order","steps"]) (T.fn 36 rfl) (λH Q hr nd h=>?_)
 ·obtain⟨a,rss,w,b,rfl,hW,k⟩:=h
  refine⟨_,(af (da (aI (jU T) hr (T.fn 8 rfl) (ai (qv 0) (ai (qv 1) ae))) (bM (K:=K) (n:=2) rfl (av (aE (i:=2)) (av (aE (i:=3)) aY))))
   (aq (ax (ba (ai (qv 2) (ai (ag (gP (K:=K) rfl) (by rfl) T.iL ir (ai (bj (N:=["first","last","column"]) (tgs:=["first","last","column"]) (frs:=[]) (ix:=[]) ⟨rfl,by decide +kernel,rfl,by decide +kernel,rfl,rfl,D3,D3,rfl⟩ rfl (aS (K:=K) (qv 3)) (λ_ _ _ _=>(bM (K:=K) (n:=3) rfl (av (aE (i:=0)) (av (aE (i:=1)) (av (aE (i:=2)) aY))))) (λ_ _ _ _=>(aG cW (qv 1) (qv 0)))) ae)) ae)))))),?_⟩
  dsimp only[st0];nofun;refine⟨a,rss,w,b,rfl,hW,λt o st qs os sts H1 hF hsl tt to hO ts hT _ hon s1=>?_⟩;have hql:qs.length<=200:=by rw[hT.1];exact hsl
  refine bu tt ?_;dsimp only[E7];nofun;refine⟨st,rfl,⟨_,Od ts⟩,bf (a:=st) (vs:=qs.map Ou) (λi ys σ H'=>H'=H1/\(∃ns:List Int,ys=ns.map Of/\ns.length=i/\ns=(sts.take i).map λs=>((s.2.1:Int) - (s.1:Int)))/\∃v w u,σ=[v,w,u]) (by rw[DT];exact au ⋯) (λi ys σ H' h=>by obtain⟨_,⟨ns,rfl,e,_⟩,_⟩:=h;rw[DT,e]) (λi ys σ H' h=>by rw[h.1];exact Od ts) ⟨rfl,⟨[],rfl,rfl,rfl⟩,none,none,none,rfl⟩ ?_ ?_⟩
  ·rintro i ys σ H' x hx ⟨rfl,⟨ns,rfl,hnl,hns⟩,v,w,u,rfl⟩
   have hil:=br hx;obtain⟨q,rfl,hq,_,hi⟩:=aH hx;have tq:=hT.2 i q _ hq (DR (by rw[<-hT.1];exact hi));refine dX tq ?_;dsimp only[E7];nofun;exact Ol hil ⟨rfl,⟨ns++[_],by rw[D0];rfl,by simp[hnl],by rw[D7,DR (by rw[<-hT.1];exact hi),D0,hns];rfl⟩,_,_,_,rfl⟩
  rintro ys σ H2 ⟨rfl,⟨ns,rfl,hnl,hns⟩,v,w,u,rfl⟩ z hz;obtain⟨H3,e9,s2,tz⟩:=nwR hz (.lst (ns.map Of));rw[e9];nofun;refine fY (Od tz) ?_;nofun;refine⟨aF (by simp),λt2 ht2=>?_⟩;have to3:=s2 _ _ to;exact k t2 o os _ _ ((s1.trans s2).free ht2) hon ((s1.trans s2).new ht2) aj (by rw[aB (ay to3 ht2)];exact to3) hO (.inr (.inl ⟨rfl,by rw[hns,DT,DW (by rw[hT.1];exact DY _)];exact rl hW.2.1 hW.2.2.2.2 hF⟩))
theorem kR (T:Tx K mg t):FnOk P t.wd K mg base CX0 4 (t.f 37) (t.d 37) ["rows","base"] (fJ "runs"):=by
 refine okT (N:=["rows","base","order","steps"]) (T.fn 37 rfl) (λH Q hr nd h=>?_)
 ·obtain⟨a,rss,w,b,rfl,hW,k⟩:=h
  refine⟨_,(af (da (aI (oy T) hr (T.fn 22 rfl) (ai (qv 0) ae)) (bM (K:=K) (n:=2) rfl (av (aE (i:=2)) (av (aE (i:=3)) aY))))
   (aq (ax (ba (ai (qv 2) (ai (ag (gP (K:=K) rfl) (by rfl) T.iL ir (ai (bj (N:=["first","middle","last"]) (tgs:=["first","middle","last"]) (frs:=[]) (ix:=[]) ⟨rfl,by decide +kernel,rfl,by decide +kernel,rfl,rfl,D3,D3,rfl⟩ rfl (aS (K:=K) (qv 3)) (λ_ _ _ _=>(bM (K:=K) (n:=3) rfl (av (aE (i:=0)) (av (aE (i:=1)) (av (aE (i:=2)) aY))))) (λ_ _ _ _=>(aG cW (qv 2) (qv 0)))) ae)) ae)))))),?_⟩
  dsimp only[st0];nofun;refine⟨a,rss,w,b,rfl,hW,λt o st os qs H1 _ hon s1 tt to hO ts hT hsl=>?_⟩;have hql:qs.length<=200:=by rw[hT.1];exact hsl
  refine bu tt ?_;dsimp only[E7];nofun;refine⟨st,rfl,⟨_,Od ts⟩,bf (a:=st) (vs:=qs.map Ou) (λi ys σ H'=>H'=H1/\(∃ns:List Int,ys=ns.map Of/\ns.length=i/\ns=((eL (b6 rss rss.length)).take i).map λs=>(((s.2.2:Nat):Int) - ((s.1:Nat):Int)))/\∃v w u,σ=[v,w,u]) (by rw[DT];exact au ⋯) (λi ys σ H' h=>by obtain⟨_,⟨ns,rfl,e,_⟩,_⟩:=h;rw[DT,e]) (λi ys σ H' h=>by rw[h.1];exact Od ts) ⟨rfl,⟨[],rfl,rfl,rfl⟩,none,none,none,rfl⟩ ?_ ?_⟩
  ·rintro i ys σ H' x hx ⟨rfl,⟨ns,rfl,hnl,hns⟩,v,w,u,rfl⟩
   have hil:=br hx;obtain⟨q,rfl,hq,_,hi⟩:=aH hx;have tq:=hT.2 i q _ hq (DR (by rw[<-hT.1];exact hi));refine dX tq ?_;dsimp only[E7];nofun;exact Ol hil ⟨rfl,⟨ns++[_],by rw[D0];rfl,by simp[hnl],by rw[D7,DR (by rw[<-hT.1];exact hi),D0,hns];rfl⟩,_,_,_,rfl⟩
  rintro ys σ H2 ⟨rfl,⟨ns,rfl,hnl,hns⟩,v,w,u,rfl⟩ z hz;obtain⟨H3,e9,s2,tz⟩:=nwR hz (.lst (ns.map Of));rw[e9];nofun;refine fY (Od tz) ?_;nofun;refine⟨aF (by simp),λt2 ht2=>?_⟩;have to3:=s2 _ _ to;exact k t2 o os _ _ ((s1.trans s2).free ht2) hon ((s1.trans s2).new ht2) aj (by rw[aB (ay to3 ht2)];exact to3) hO (.inr (.inr ⟨rfl,by rw[hns,DT,DW (by rw[hT.1];exact DY _)];rfl⟩))
def Co (K:DU) (t:Ad):V->Sp->Prop:=λv sp=>(v=.ref (t.f 35)/\sp=fJ "last")\/(v=.ref (t.f 36)/\sp=fJ "first")\/(v=.ref (t.f 37)/\sp=fJ "runs")
theorem DG{α β γ δ ε ζ:Type}{G:Prop}{S B:α->β->γ->δ->ε->ζ->Hp->Prop}(hA:(∀a b c d e f H,S a b c d e f H->B a b c d e f H)->G)(hB:∀a b c d e f H,S a b c d e f H->B a b c d e f H):G:=hA hB
noncomputable def Kd.sel(k:Kd)(os:List Nat):Kd:=match k with
 | .nu ns=>.nu (os.map λo=>ns.getD o 0)
 | .pa tb=>.pa (os.map λo=>tb.getD o (0,1))
 | .te zs=>.te (os.map λo=>zs.getD o "")
theorem u4{tb:List (Int×Nat)}{z:V}(hl:qs.length=tb.length)(h:z∈qs.map Ou):∃(i:Nat) (q:Addr),z=.ref q/\qs[i]? = some q/\tb[i]? = some (tb.getD i (0,1)):=by
 obtain⟨q,hq,rfl⟩:=D4.mp h;obtain⟨i,hi,rfl⟩:=IB hq;exact⟨i,_,rfl,DR hi,by rw[DS,DR (by rw[<-hl];exact hi)];rfl⟩
theorem Hand.th{H:Hp}{k:Kd}(h:Hand H k a us):∃lk,∀z∈us,ThB lk H z:=by
 rcases h with⟨_,h⟩|⟨tb,qs,rfl,rfl,_,hP⟩
 ·refine⟨false,λz hz=>?_⟩
  cases k with
  | nu ns=>
   obtain rfl:us=ns.map Of:=h;obtain⟨x,_,rfl⟩:=D4.mp hz;exact .inl (.inr (.inr (.inl ⟨x,rfl⟩)))
  | te zs=>
   obtain rfl:us=zs.map Oh:=h;obtain⟨x,_,rfl⟩:=D4.mp hz;exact .inl (.inr (.inr (.inr ⟨x,rfl⟩)))
  | pa tb=>
   obtain⟨qs,rfl,hP⟩:=h;obtain⟨i,q,rfl,e⟩:=u4 hP.1 hz;exact .inr ⟨q,_,rfl,hP.2 i q _ e.1 e.2,by simp,by simp,λx hx=>by
    simp only[Eb,EC,or_false]at hx;rcases hx with rfl|rfl<;>exact .inr (.inr (.inl ⟨_,rfl⟩))⟩
 ·refine⟨true,λz hz=>?_⟩
  obtain⟨i,q,rfl,e⟩:=u4 hP.1 hz;exact .inr ⟨q,_,rfl,hP.2 i q _ e.1 e.2,by simp,by simp,λx hx=>by
   simp only[Eb,EC,or_false]at hx;rcases hx with rfl|rfl<;>exact .inr (.inr (.inl ⟨_,rfl⟩))⟩
def Cp (K:DU):Sp:=λvs H Q _=>∃(way:Str) (k:Kd) (us:List V) (a:Addr) (b:Nat),vs=[.str way,.str k.name,.ref a,.int b]/\(way = "last"\/way = "first"\/way = "runs")/\Hand H k a us/\k.ok/\2<=b/\b<=64/\
 ∀(t l o:Addr) (os:List Nat) (ys:List V) (m:Int) (rss:List (List Nat)) (w by':Nat) H',Same H H'->H' t=some (.tup [.ref l,.ref o,.int m])->H' o=some (.lst (NV os))->H' l=some (.lst ys)->KAt H' (k.sel os) ys->k.rows b rss w by'->OrdR rss os->xO way rss w by' m->H l=none->H o=none->l≠o->Q (.ref t) H'
theorem u5{os:List Nat}{g:Nat->V}(hl:ys.length=os.length)(h:∀(i o:Nat),os[i]? = some o->ys[i]? = some (g o)):ys=os.map g:=by
 refine Jk λi=>?_
 rw[DX];cases e:os[i]? with
 | none=>rw[Ju]at e;rw[Ju.mpr ⋯];rfl
 | some o=>exact h i o e
theorem ThEB.int{lk:Bool}{H:Hp}{n:Int}{y:V}(h:ThEB lk H (.int n) y):y=.int n:=h.elim (·.2) λ⟨_,_,_,e,_⟩=>by cases e
theorem ThEB.str{lk:Bool}{H:Hp}{n:Str}{y:V}(h:ThEB lk H (.str n) y):y=.str n:=h.elim (·.2) λ⟨_,_,_,e,_⟩=>by cases e
theorem oB (T:Tx K mg t):FnOk P t.wd K mg base CX0 5 (t.f 39) (t.d 39) ["way","kind","keys","base"] (Cp K):=by
 refine okT (N:=["way","kind","keys","base","by","rows","done","order","moves","told"]) (T.fn 39 rfl) (λH Q hr nd h=>?_)
 ·obtain⟨way,k,us,a,b,rfl,hway,hH,hk,hb,hb2,q⟩:=h
  refine⟨_,(af (da (aI (jb T) hr (T.fn 31 rfl) (ai (qv 1) (ai (qv 2) (ai (qv 3) ae)))) (bM (K:=K) (n:=2) rfl (av (aE (i:=4)) (av (aE (i:=5)) aY))))
   (af (aJ (i:=6) (aR (zD T.uj) (jL (v:=.ref t.jd) rfl T.Ag rfl) (qv 0)))
   (af (da (m4 (R:=Co K t) (qv 6) (λv sp h=>by
     rcases h with⟨rfl,rfl⟩|⟨rfl,rfl⟩|⟨rfl,rfl⟩
     ·exact⟨_,_,_,_,_,rfl,kQ T,hr.mono (by decide),(T.fn 35 rfl).2.1.kp,(T.fn 35 rfl).2.2,jk⟩
     ·exact⟨_,_,_,_,_,rfl,jV T,hr.mono (by decide),(T.fn 36 rfl).2.1.kp,(T.fn 36 rfl).2.2,jk⟩
     ·exact⟨_,_,_,_,_,rfl,kR T,hr.mono (by decide),(T.fn 37 rfl).2.1.kp,(T.fn 37 rfl).2.2,jk⟩) (ai (qv 5) (ai (qv 4) ae))) (bM (K:=K) (n:=2) rfl (av (aE (i:=7)) (av (aE (i:=8)) aY))))
   (af (aJ (i:=9) (aI (zJ T) hr (T.fn 16 rfl) (ai (qv 2) (ai (qv 7) ae))))
   (af (aV (aD dD (qv 1) bE (az _)) (aq (gR (i:=9) (N:=["key"]) (tgs:=["key"]) (frs:=[]) (ix:=[])  nd rfl (Fh rfl) ⟨rfl,by decide +kernel,rfl,by decide +kernel,rfl,rfl,D3,D3,rfl⟩ rfl (aS (K:=K) (qv 9)) (λ_ _ _ _=>(aE (i:=0))) (λ_ _ _ _=>(aT (bY (K:=K)) (by rfl) T.aW aP (ai (qv 0) ae))))) aK)
   (aq (ax (ba (ai (qv 9) (ai (qv 7) (ai (qv 8) ae))))))))))),?_⟩
  dsimp only[st0];nofun;refine⟨k,us,a,b,rfl,hH,hk,hb,hb2,λp0 l ps rss w by' H1 s1 tt tl hR hr=>?_⟩;obtain⟨hG,hrl,hw,hby⟩:=hr.good hk hb hb2;have hrn:rss.length<=200:=by rw[hrl];exact hk.le
  have hul:us.length=rss.length:=hH.len.trans hrl.symm;refine bu tt ?_;have hW:Rws H1 l rss w by':=⟨⟨ps,tl,hR⟩,hG,hrn,hw,hby⟩;nofun;apply DG (S:=λ(z o:Addr) (os:List Nat) (m:Int) (_ _:V) H2=>Same H1 H2/\H2 z=some (.tup [.ref o,.int m])/\H2 o=some (.lst (NV os))/\OrdR rss os/\xO way rss w by' m/\H1 o=none);case hA=>
   intro key;obtain⟨w2,e2⟩:∃w2,w2=way:=⟨_,rfl⟩
   rw[<-e2];have h2:w2 = "last"\/w2 = "first"\/w2 = "runs":=e2▸hway;have e3:∀m,xO w2 rss w by' m->xO way rss w by' m:=λm h=>e2▸h
   clear e2;rcases h2 with rfl|rfl|rfl
   ·refine⟨_,_,rfl,rfl,rfl,?_⟩
    nofun;refine⟨fJ "last",.inl ⟨rfl,rfl⟩,?_⟩;nofun;refine⟨l,rss,w,by',rfl,hW,λz o os m H2 _ hon s2 tz to hO hM=>?_⟩;generalize Ou (t.f 35)=vd;generalize Oh (Ey "last")=vw;exact key z o os m vd vw H2 ⟨s2,tz,to,hO,e3 m hM,hon⟩
   ·refine⟨_,_,rfl,rfl,rfl,?_⟩
    nofun;refine⟨fJ "first",.inr (.inl ⟨rfl,rfl⟩),?_⟩;nofun;refine⟨l,rss,w,by',rfl,hW,λz o os m H2 _ hon s2 tz to hO hM=>?_⟩;generalize Ou (t.f 36)=vd;generalize Oh (Ey "first")=vw;exact key z o os m vd vw H2 ⟨s2,tz,to,hO,e3 m hM,hon⟩
   ·refine⟨_,_,rfl,rfl,rfl,?_⟩
    nofun;refine⟨fJ "runs",.inr (.inr ⟨rfl,rfl⟩),?_⟩;nofun;refine⟨l,rss,w,by',rfl,hW,λz o os m H2 _ hon s2 tz to hO hM=>?_⟩;generalize Ou (t.f 37)=vd;generalize Oh (Ey "runs")=vw;exact key z o os m vd vw H2 ⟨s2,tz,to,hO,e3 m hM,hon⟩
  case hB=>
   rintro z o os m vd vw H2 ⟨s2,tz,to,hO,hM,hon⟩;refine bu tz ?_;dsimp only[E7];have s12:=s1.trans s2;have hos:Ord os us.length:=by rw[hul];exact Ord.of_perm hO.1
   have hH2:=hH.same s12;obtain⟨lk,hlk⟩:=hH2.th;nofun;refine⟨lk,a,o,us,os,us.length,rfl,hH2.seq,hlk,rfl,.inl to,hos,by lia,λd ys H3 hd s3 td hyl hys=>?_⟩;have s13:=s12.trans s3;have to3:=s3 _ _ to;have hH3:=hH2.same s3;have hdo:d≠o:=λe=>by rw[e,to]at hd;cases hd
   have hdn:H d=none:=s12.free hd;have hoH:H o=none:=s1.free hon;have hyo:ys.length=os.length:=by rw[hyl,hos.len]
   have hlt:∀(i o:Nat),os[i]? = some o->o<us.length:=λi o e=>hos.lt o (Ew e)
   have hnu:∀ns,k=.nu ns->KAt H3 (k.sel os) ys:=λns ek=>by
    subst ek;obtain⟨_,hA⟩:=hH3.nu;obtain rfl:us=ns.map Of:=hA;show ys=(os.map λo=>ns.getD o 0).map Of
    rw[ED];refine u5 hyo λi o e=>?_
    have hl:o<ns.length:=by have:=hlt i o e;rwa [DT]at this
    obtain⟨y,e5,e6⟩:=hys i o (Of (ns.getD o 0)) e (by rw[DX,DR hl,DS,DR hl];rfl);rw[e5,e6.int];rfl
   have hte:∀zs,k=.te zs->KAt H3 (k.sel os) ys:=λzs ek=>by
    subst ek;obtain⟨_,hA⟩:=hH3.te;obtain rfl:us=zs.map Oh:=hA;show ys=(os.map λo=>zs.getD o "").map Oh
    rw[ED];refine u5 hyo λi o e=>?_
    have hl:o<zs.length:=by have:=hlt i o e;rwa [DT]at this
    obtain⟨y,e5,e6⟩:=hys i o (Oh (zs.getD o "")) e (by rw[DX,DR hl,DS,DR hl];rfl);rw[e5,e6.str];rfl
   have hpa:∀tb,k=.pa tb->∀(i o:Nat),os[i]? = some o->∃u,ys[i]? = some (Ou u)/\(H3 u=some (.tup [.int (tb.getD o (0,1)).1,.int (tb.getD o (0,1)).2])\/H3 u=some (.lst [.int (tb.getD o (0,1)).1,.int (tb.getD o (0,1)).2])):=λtb ek i o e=>by
    subst ek;have hl:=hlt i o e;have fin:∀(qs:List Addr) (lk':Bool) (xs:List V),us=qs.map Ou->o<qs.length->(∀q,qs[o]? = some q->H3 q=some (ob lk' xs))->∃u,ys[i]? = some (Ou u)/\H3 u=some (ob lk' xs):=λqs lk' xs eu ho hq=>by
     obtain⟨y,e7,e8⟩:=hys i o (Ou qs[o]) e (by rw[eu,DX,DR ho];rfl);have e6:=hq _ (DR ho);rcases e8 with⟨e8,_⟩|⟨t1,u,zs,e9,rfl,f1,f2,_⟩
     ·rcases e8 with h|⟨_,h⟩|⟨_,h⟩|⟨_,h⟩<;>cases h
     ·cases e9
      rw[e6]at f1;exact⟨u,e7,by rw[f2,<-f1]⟩
    rcases hH3 with⟨_,qs,eu,hP⟩|⟨tb',qs,e5,eu,_,hP⟩
    ·have ho:o<qs.length:=by rwa [eu,DT]at hl
     obtain⟨u,f1,f2⟩:=fin qs false [.int (tb.getD o (0,1)).1,.int (tb.getD o (0,1)).2] eu ho λq hq=>hP.2 o q _ hq (by rw[DS,DR (by rw[<-hP.1];exact ho)];rfl)
     exact⟨u,f1,.inl f2⟩
    ·cases e5
     have ho:o<qs.length:=by rwa [eu,DT]at hl
     obtain⟨u,f1,f2⟩:=fin qs true [.int (tb.getD o (0,1)).1,.int (tb.getD o (0,1)).2] eu ho λq hq=>hP.2 o q _ hq (by rw[DS,DR (by rw[<-hP.1];exact ho)];rfl)
     exact⟨u,f1,.inr f2⟩
   clear hlk hH2;nofun;apply Av (α:=Addr) (S:=λc H4=>Same H3 H4/\H c=none/\c≠o/\∃zs,H4 c=some (.lst zs)/\KAt H4 (k.sel os) zs);case hA=>
    intro key;obtain⟨k2,e2⟩:∃k2,k2=k:=⟨_,rfl⟩
    rw[<-e2];cases k2 with
    | nu ns=>
     have e4:=hnu ns e2.symm;refine bX (show ¬Oh (Ey "number")=Oh (Ey "part")by decide) ?_;nofun;generalize h8:d=d9;generalize h9:H3=H9;exact key d9 H9 ⟨h9▸Oi _,h8▸hdn,h8▸hdo,ys,h8▸h9▸td,h9▸e4⟩
    | te zs=>
     have e4:=hte zs e2.symm;refine bX (show ¬Oh (Ey "text")=Oh (Ey "part")by decide) ?_;nofun;generalize h8:d=d9;generalize h9:H3=H9;exact key d9 H9 ⟨h9▸Oi _,h8▸hdn,h8▸hdo,ys,h8▸h9▸td,h9▸e4⟩
    | pa tb=>
     have hy:=hpa tb e2.symm;refine cN rfl ?_;nofun;refine⟨d,rfl,⟨_,Od td⟩,bf (a:=d) (vs:=ys) (λi zs σ H'=>Same H3 H'/\(∃qs:List Addr,zs=qs.map Ou/\qs.length=i/\PartsT H' qs ((os.take i).map λo=>tb.getD o (0,1)))/\∃v,σ=[v]) (by rw[hyl];exact au ⋯) (λi zs σ H' h=>by obtain⟨_,⟨qs,rfl,e,_⟩,_⟩:=h;rw[DT];exact e) (λi zs σ H' h=>Od (h.1 _ _ td)) ⟨Oi _,⟨[],rfl,rfl,rfl,λi p z h=>by simp at h⟩,none,rfl⟩ ?_ ?_⟩
     ·rintro i zs σ H' x hx ⟨s4,⟨qs,rfl,hql,hP⟩,v,rfl⟩
      have hil:=br hx;have hio:os[i]? = some (os[i]'⋯):=DR ⋯;obtain⟨u,e5,tu⟩:=hy i _ hio;rw[hx]at e5;cases e5;have tk:(os.take (i+1)).map (λo=>tb.getD o (0,1))=(os.take i).map (λo=>tb.getD o (0,1))++[tb.getD (os[i]'⋯) (0,1)]:=by rw[D7,hio,D0];rfl
      nofun;rcases tu with tu|tu
      ·refine⟨u,_,rfl,.inr ⟨Oe (s4 _ _ tu),?_⟩⟩
       exact Ol hil ⟨s4,⟨qs++[u],by rw[D0];rfl,by simp[hql],by rw[tk];exact hP.snoc (s4 _ _ tu)⟩,_,rfl⟩
      ·refine df (Od (s4 _ _ tu)) λu2 hu2=>?_
       exact Ol hil ⟨s4.new hu2,⟨qs++[u2],by rw[D0];rfl,by simp[hql],by rw[tk];exact(hP.same ((Oi _).new hu2)).snoc aj⟩,_,rfl⟩
     rintro zs σ H4 ⟨s4,⟨qs,rfl,hql,hP⟩,v,rfl⟩ c hc;have sc:=(Oi H4).new (o:=.lst (qs.map Ou)) hc;have tc:(upd H4 c (.lst (qs.map Ou))) c=some (.lst (qs.map Ou)):=aj;have hco:c≠o:=λe=>by rw[e,s4 _ _ to3]at hc;cases hc
     have hcn:H c=none:=s13.free (s4.free hc);rw[hyo,DW (DY _)]at hP;generalize upd H4 c (.lst (qs.map Ou))=H5 at sc tc;nofun;exact key c H5 ⟨s4.trans sc,hcn,hco,_,tc,e2▸(⟨qs,rfl,hP.same sc⟩:KAt H5 ((Kd.pa tb).sel os) (qs.map Ou))⟩
   case hB=>
    rintro c H4 ⟨s4,hcn,hco,zs,tc,hK⟩;nofun;refine⟨aF (by simp),λe he=>?_⟩;have s5:=(Oi H4).new (o:=.tup [Ou c,Ou o,Of m]) he;exact q e c o os zs m rss w by' _ ((s13.trans s4).new he) aj (s5 _ _ (s4 _ _ to3)) (s5 _ _ tc) (hK.same s5) hr hO hM hcn hoH hco
def Cq:Sp:=λvs H Q _=>∃(p:Addr),vs=[.ref p]/\Tp2 H p/\∀(n:Int) H',-(10 ^ 18)<n->n<10 ^ 18->St2 p H H'->Q (.int n) H'
theorem kT (T:Tx K mg t):FnOk P t.wd K mg base CX0 2 (t.f 44) (t.d 44) ["_law_tape_here"] Cq:=by
 refine okT (N:=["_law_tape_here","_law_kind"]) (T.fn 44 rfl) (λH Q hr nd h=>?_)
 ·obtain⟨p,rfl,hT,k⟩:=h
  refine⟨_,(af (aJ (i:=1) (aI (bz T) hr (T.fn 41 rfl) (ai (qv 0) (ai ao ae))))
   (af (aV (aD oG (qv 1) ao (az _)) (aq (ax (aG cW (aI (bz T) hr (T.fn 41 rfl) (ai (qv 0) (ai ao ae))) ao))) aK)
   (af (aV (aD dD (qv 1) ao (az _)) (aq (ax (aG dG (aG cW (aG cW (aG nV ao ao) ao) (aI (bz T) hr (T.fn 41 rfl) (ai (qv 0) (ai ao ae)))) (aR (bx (K:=K)) (bo (ai ao (ai (gg gh ao) ae))) (aI (bz T) hr (T.fn 41 rfl) (ai (qv 0) (ai ao ae))))))) aK)
   (af (aV (aD dD (qv 1) ao (az _)) (aq (ax (aG cI (aG nV ao ao) (aI (bz T) hr (T.fn 41 rfl) (ai (qv 0) (ai ao ae)))))) aK)
   (aq (ax (aG dG (aG cI (aG dG (aI (bz T) hr (T.fn 41 rfl) (ai (qv 0) (ai (aG nV ao ao) ae))) (aG nV ao ao)) (aI (bz T) hr (T.fn 41 rfl) (ai (qv 0) (ai (aG nV ao ao) ae)))) (aR (bx (K:=K)) (bo (ai ao (ai (gg gh ao) ae))) (aI (bz T) hr (T.fn 41 rfl) (ai (qv 0) (ai ao ae))))))))))),?_⟩
  dsimp only[st0];nofun;refine⟨p,8,rfl,hT,by decide,by decide,λr H1 a S1=>?_⟩;have turn:∀(x:Int) (H2 H3:Hp) (q:Addr) (r2:Nat) (Q':VK),0<=x->x<10 ^ 18->(∀v H',Q v H'->Q' v H')->St2 p H H2->H2 q=none->(r2:Int)<2->St2 p (upd H2 q (.lst [.int 1,.int (-1)])) H3->(∃v,atI [Of 1,Of (-1)] r2=some v/\∃z:Int,v=.int z/\Q' (.int (x*z)) H3):=λx H2 H3 q r2 Q' h0 h1 hQ S2 hq hr S3=>by
   have S:=(S2.new (o:=.lst [.int 1,.int (-1)]) hq).trans S3;have hr2:r2<2:=by lia
   match r2,hr2 with
   | 0,_=>exact⟨_,rfl,1,rfl,hQ _ _ (k _ _ ⋯ ⋯ S)⟩
   | 1,_=>exact⟨_,rfl,-1,rfl,hQ _ _ (k _ _ ⋯ ⋯ S)⟩
  nofun;refine a9 (λg=>?_) (λg=>?_)
  ·nofun
   refine⟨p,12,rfl,S1.tape,by decide,by decide,λr2 H2 a2 S2=>?_⟩;nofun;exact k _ _ ⋯ ⋯ (S1.trans S2)
  nofun;refine a9 (λg2=>?_) (λg2=>?_)
  ·nofun
   refine⟨p,3,rfl,S1.tape,by decide,by decide,λr2 H2 a2 S2=>?_⟩;nofun;refine⟨aF (by simp),λq hq=>?_⟩;have nq:=(S1.trans S2).tape.ne hq;nofun;refine⟨p,2,rfl,((S1.trans S2).new hq).tape,by decide,by decide,λr4 H4 a4 S4=>?_⟩;obtain⟨v,e,z,rfl,hz⟩:=turn (10 ^ 18 - 1 - (r2:Int)) H2 H4 q r4 _ ⋯ ⋯ (λ_ _ z=>z) (S1.trans S2) hq a4 S4;refine bJ (Od (S4.keep q _ aj nq)) e ?_;nofun;exact hz
  nofun;refine a9 (λg3=>?_) (λg3=>?_)
  ·nofun
   refine⟨p,3,rfl,S1.tape,by decide,by decide,λr2 H2 a2 S2=>?_⟩;nofun;exact k (10 ^ 17+(r2:Int)) _ ⋯ ⋯ (S1.trans S2)
  ·nofun
   refine⟨p,_,rfl,S1.tape,by decide,by decide,λr2 H2 a2 S2=>?_⟩;have a2:(r2:Int)<10 ^ 9:=a2;nofun;refine⟨p,_,rfl,(S1.trans S2).tape,by decide,by decide,λr3 H3 a3 S3=>?_⟩;have a3:(r3:Int)<10 ^ 9:=a3;nofun;refine⟨aF (by simp),λq hq=>?_⟩;have nq:=((S1.trans S2).trans S3).tape.ne hq;nofun;refine⟨p,2,rfl,(((S1.trans S2).trans S3).new hq).tape,by decide,by decide,λr4 H4 a4 S4=>?_⟩;obtain⟨v,e,z,rfl,hz⟩:=turn ((r2:Int)*10 ^ 9+(r3:Int)) H3 H4 q r4 _ ⋯ ⋯ (λ_ _ z=>z) ((S1.trans S2).trans S3) hq a4 S4;refine bJ (Od (S4.keep q _ aj nq)) e ?_;nofun;exact Bs (show CMul ((r2:Int)*10 ^ 9+(r3:Int)) z from Fh ⟨by lia,by lia⟩) hz
def Cr:Sp:=λvs H Q _=>∃(t:Int) (c:Nat),vs=[.int t,.int c]/\1<=c/\c<=60/\-(10 ^ 18)<t/\t<10 ^ 18/\∀(q:Addr) (t':Int) (c':Nat),-(10 ^ 18)<t'->t'<10 ^ 18->1<=c'->c'<=60->H q=none->Q (.ref q) (upd H q (.tup [.int t',.int c']))
theorem rm (T:Tx K mg t):FnOk P t.wd K mg base CX0 1 (t.f 45) (t.d 45) ["_law_top","_law_bottom"] Cr:=by
 refine okT (N:=["_law_top","_law_bottom","_law_one","_law_other"]) (T.fn 45 rfl) (λH Q hr nd h=>?_)
 ·obtain⟨x,c,rfl,h1,h60,hx1,hx2,q⟩:=h
  refine⟨_,(af (mj rfl nd (i:=2) (j:=3) rfl rfl (by decide) rfl rfl (ai (ag pK (by rfl) T.oD qQ (ai (qv 0) ae)) (ai (qv 1) ae)))
   (af (cX Em (aD rA (qv 3) ao (az _)) (aq (mj rfl nd (i:=2) (j:=3) rfl rfl (by decide) rfl rfl (ai (qv 3) (ai (aG fN (qv 2) (qv 3)) ae)))))
   (aq (ax (ba (ai (aG dq (qv 0) (qv 2)) (ai (aG dq (qv 1) (qv 2)) ae))))))),?_⟩
  dsimp only[st0];nofun;have ea:(if x<0 then -x else x)=((x.natAbs:Nat):Int):=by split<;>lia
  try rw[ea]
  refine⟨λm σ H'=>H'=H/\∃(g l:Nat),σ=[some (Of x),some (Of c),some (Of g),some (Of l)]/\FX g l=FX x.natAbs c/\l=m,⟨c,rfl,x.natAbs,c,rfl,rfl,rfl⟩,?_⟩;rintro m σ H' ⟨rfl,g,l,rfl,e,rfl⟩;nofun;refine a9 (λh1=>?_) (λh1=>?_)
  ·refine⟨_,λ_ _ z=>z,?_⟩
   nofun;have hl:0<l:=by lia
   rw[<-JH];exact⟨g % l,Jr _ hl,rfl,l,g % l,rfl,by rw[mC hl,e],rfl⟩
  ·have hl:l=0:=by lia
   subst hl;rw[Lh]at e;have hd1:g∣x.natAbs:=by rw[e];exact LL ..
   have hd2:g∣c:=by rw[e];exact HI ..
   have hg:0<g:=Nat.pos_of_dvd_of_pos hd2 ⋯;nofun;have hgc:g<=c:=HM ⋯ hd2;have hlog:pF x (g:Int):=⟨by lia,E4 (LW _) ⋯⟩;have hlog2:pF (c:Int) (g:Int):=⟨by lia,E4 (LW _) ⋯⟩;refine Bs hlog ?_;nofun;refine⟨aF (by simp),λp hp=>?_⟩;rw[<-FF];refine q p _ _ ?_ ?_ (Nat.div_pos hgc hg) (ET (L9 ..) h60) hp
   ·have:x<=x / (g:Int)\/0<=x / (g:Int):=by
     rcases Nl x 0 with h|h
     ·left
      rw[Int.le_ediv_iff_mul_le ⋯];have:x*(g:Int)<=x*1:=Int.mul_le_mul_of_nonpos_left ⋯ ⋯;lia
     ·right;exact Mg h ⋯
    lia
   ·have:x / (g:Int)<=x\/x / (g:Int)<0:=by
     rcases Nl x 0 with h|h
     ·right;exact Int.ediv_neg_of_neg_of_pos h ⋯
     ·left;exact Int.ediv_le_self _ h
    lia
def zX:Sp:=λvs H Q _=>∃(p:Addr),vs=[.ref p]/\Tp2 H p/\∀(q:Addr) (t':Int) (c':Nat) H',-(10 ^ 18)<t'->t'<10 ^ 18->1<=c'->c'<=60->St2 p H H'->H q=none->H' q=some (.tup [.int t',.int c'])->Q (.ref q) H'
theorem lS (T:Tx K mg t):FnOk P t.wd K mg base CX0 3 (t.f 46) (t.d 46) ["_law_tape_here"] zX:=by
 refine okT (N:=["_law_tape_here","_law_top"]) (T.fn 46 rfl) (λH Q hr nd h=>?_)
 ·obtain⟨p,rfl,hT,k⟩:=h
  refine⟨_,(af (aJ (i:=1) (aR (bx (K:=K)) (bo (ai (aG cW (aI (bz T) hr (T.fn 41 rfl) (ai (qv 0) (ai ao ae))) ao) (ai (aI (kT T) hr (T.fn 44 rfl) (ai (qv 0) ae)) ae))) (aT mn (by rfl) T.fL dO (ai (aQ dD (aI (bz T) hr (T.fn 41 rfl) (ai (qv 0) (ai ao ae))) ao (az _)) ae))))
   (aq (ax (aI (rm T) hr (T.fn 45 rfl) (ai (qv 1) (ai (aR (bx (K:=K)) (bo (ai ao (ai ao (ai ao (ai ao (ai (aG cI ao (aI (bz T) hr (T.fn 41 rfl) (ai (qv 0) (ai ao ae)))) ae)))))) (aI (bz T) hr (T.fn 41 rfl) (ai (qv 0) (ai ao ae)))) ae)))))),?_⟩
  dsimp only[st0];nofun;refine⟨p,40,rfl,hT,by decide,by decide,λr1 H1 a1 S1=>?_⟩;nofun;refine⟨p,rfl,S1.tape,λn H2 n1 n2 S2=>?_⟩;nofun;refine⟨aF (by simp),λq hq=>?_⟩;have nq:=(S1.trans S2).tape.ne hq;have S3:=(S1.trans S2).new (o:=.lst [Of ((r1:Int) - 12),Of n]) hq;have tq:(upd H2 q (.lst [Of ((r1:Int) - 12),Of n])) q=some (.lst [Of ((r1:Int) - 12),Of n]):=aj;generalize upd H2 q (.lst [Of ((r1:Int) - 12),Of n])=H3 at S3 tq;nofun;refine⟨p,6,rfl,S3.tape,by decide,by decide,λr2 H4 a2 S4=>?_⟩;nofun;obtain⟨v,e,hv⟩:=c6 (xs:=[Of ((r1:Int) - 12),Of n]) (r:=if decide (Of (r2:Int)=Of 0)=true then 1 else 0) (by split<;>lia) (by simp only[Ej,E2];split<;>lia);refine bJ (Od (S4.keep q _ tq nq)) e ?_;obtain⟨top,rfl,ht1,ht2⟩:∃z:Int,v=.int z/\-(10 ^ 18)<z/\z<10 ^ 18:=by
   simp only[Eb,EC,or_false]at hv;rcases hv with rfl|rfl
   ·exact⟨_,rfl,by lia,by lia⟩
   ·exact⟨_,rfl,n1,n2⟩
  nofun;refine⟨p,60,rfl,(S3.trans S4).tape,by decide,by decide,λr3 H5 a3 S5=>?_⟩;nofun;refine⟨aF (by simp),λq2 hq2=>?_⟩;have S35:=(S3.trans S4).trans S5;have nq2:=S35.tape.ne hq2;obtain⟨H6,e9,S6,tq2⟩:=nwT S35 hq2 (.lst [Of 1,Of 2,Of 3,Of 4,Of (1+(r3:Int))]);rw[e9];nofun;refine⟨p,5,rfl,S6.tape,by decide,by decide,λr4 H7 a4 S7=>?_⟩;nofun;obtain⟨v,e,hv⟩:=c6 (xs:=[Of 1,Of 2,Of 3,Of 4,Of (1+(r3:Int))]) (r:=(r4:Int)) ⋯ (by simp only[Ej,E2];lia);refine bJ (Od (S7.keep q2 _ tq2 nq2)) e ?_;obtain⟨c,rfl,hc1,hc2⟩:∃c:Nat,v=.int c/\1<=c/\c<=60:=by
   simp only[Eb,EC,or_false]at hv;rcases hv with rfl|rfl|rfl|rfl|rfl
   ·exact⟨1,rfl,by lia,by lia⟩
   ·exact⟨2,rfl,by lia,by lia⟩
   ·exact⟨3,rfl,by lia,by lia⟩
   ·exact⟨4,rfl,by lia,by lia⟩
   ·exact⟨1+r3,by simp,by lia,by lia⟩
  refine⟨top,c,rfl,hc1,hc2,ht1,ht2,λz x c' h1 h2 h3 h4 hz=>?_⟩;have S:=S6.trans S7;exact k z x c' _ h1 h2 h3 h4 (S.new hz) (S.free hz) aj
theorem Da:∀{zs:List Str},(∀y∈zs,Ltr 1 y)->(zs.map (·.length)).sum<=zs.length
 | [],_=>DY _
 | y::zs,h=>by
  have h1:=(h y (Es ..)).1;have ih:=Da (zs:=zs) λx hx=>h x (En _ hx)
  rw[Ez,EJ,Ej];lia
theorem uc {zs:List Str}(h:∀y∈zs,Ltr 1 y):Ltr zs.length (LS "" zs):=by
 show Ltr _ (NZ "" zs)
 rw[StrLaws.glued_eq_join]
 induction zs with
 | nil=>exact⟨DY _,λc hc=>by cases hc⟩
 | cons y zs ih=>
  have hy:=h y (Es ..);have ih:=ih λx hx=>h x (En _ hx)
  match zs,ih with
  | [],_=>exact hy
  | x::zs,ih=>
   have e:N5 "" (y::x::zs)=y++Ey ""++N5 "" (x::zs):=rfl;rw[e];have h0:Ltr 0 (Ey ""):=by decide +kernel
   have:=(hy.cat h0).cat ih;exact this.mono (by simp only[Ej];lia)
def Cs:Sp:=λvs H Q _=>∃(p:Addr),vs=[.ref p]/\Tp2 H p/\∀z H',Ltr 30 z->St2 p H H'->Q (.str z) H'
theorem zY{K:DU}{H:Hp}{Q:VK}{ys:List Str}(h:SqL K H l (ys.map Oh))(hs:(ys.map (·.length)).sum+ys.length*z.length<=16777216)(q:Q (.str (LS z ys)) H):wL K (.str z) [.ref l] H Q:=⟨z,l,ys,rfl,rfl,h,hs,q⟩
theorem xx (T:Tx K mg t):FnOk P t.wd K mg base CX0 2 (t.f 47) (t.d 47) ["_law_tape_here"] Cs:=by
 refine okT (N:=["_law_tape_here","_law_kind","_law_letters","_law_size"]) (T.fn 47 rfl) (λH Q hr nd h=>?_)
 ·obtain⟨p,rfl,hT,k⟩:=h
  refine⟨_,(af (aJ (i:=1) (aI (bz T) hr (T.fn 41 rfl) (ai (qv 0) (ai ao ae))))
   (af (aV (aD oG (qv 1) ao (az _)) (aq (ax (aR (bx (K:=K)) (bo (ai bE (ai bE (ai bE (ai bE (ai bE (ai bE (ai bE (ai bE (ai bE ae)))))))))) (aI (bz T) hr (T.fn 41 rfl) (ai (qv 0) (ai ao ae)))))) aK)
   (af (aJ (i:=2) (aR (bx (K:=K)) (bo (ai bE (ai bE ae))) (aG fN (qv 1) ao)))
   (af (aJ (i:=3) (aR (bx (K:=K)) (bo (ai (aI (bz T) hr (T.fn 41 rfl) (ai (qv 0) (ai ao ae))) (ai (aI (bz T) hr (T.fn 41 rfl) (ai (qv 0) (ai ao ae))) ae))) (aT mn (by rfl) T.fL dO (ai (aQ dD (aI (bz T) hr (T.fn 41 rfl) (ai (qv 0) (ai ao ae))) ao (az _)) ae))))
   (aq (ax (wN (K:=K) bE (ai (bj (N:=["_law_turn","_law_tape_here","_law_letters"]) (tgs:=["_law_turn"]) (frs:=["_law_tape_here","_law_letters"]) (ix:=[0,2]) ⟨rfl,by decide +kernel,rfl,by decide +kernel,rfl,rfl,⟨⟨rfl,rfl,_,rfl,rfl⟩,⟨rfl,rfl,_,rfl,rfl⟩,D3⟩,⟨rfl,rfl,D3⟩,rfl⟩ rfl (cR rfl T.bW (ai (qv 3) ae)) (λ_ _ _ _=>(aE (i:=0))) (λ_ _ _ _=>(aR wI (qv 2) (aI (bz T) hr (T.fn 41 rfl) (ai (qv 1) (ai (ag dZ (by rfl) T.bA aO (ai (qv 2) ae)) ae)))))) ae)))))))),?_⟩
  dsimp only[st0];nofun;refine⟨p,6,rfl,hT,by decide,by decide,λr H1 a1 S1=>?_⟩;nofun;refine a9 (λg=>?_) (λg=>?_)
  ·nofun
   refine⟨aF (by simp),λq hq=>?_⟩;nofun;have nq:=S1.tape.ne hq;refine⟨p,9,rfl,(S1.new hq).tape,by decide,by decide,λr2 H2 a2 S2=>?_⟩;obtain⟨v,e,hv⟩:=c6 (xs:=[Oh "",Oh "a",Oh "ab",Oh "aa",Oh "b",Oh "z",Oh "abc",Oh "aab",Oh "az"]) (r:=(r2:Int)) ⋯ a2;refine bJ (Od (S2.keep q _ aj nq)) e ?_;obtain⟨z,rfl,hz⟩:∃z,v=Oh z/\Ltr 30 z:=by
    simp only[Eb,EC,or_false]at hv;rcases hv with rfl|rfl|rfl|rfl|rfl|rfl|rfl|rfl|rfl<;>exact⟨_,rfl,by decide +kernel⟩
   nofun;exact k z H2 hz ((S1.new hq).trans S2)
  nofun;refine⟨aF (by simp),λq hq=>?_⟩;nofun;obtain⟨v,e,hv⟩:=c6 (xs:=[Oh "ab",Oh "abcdefghijklmnopqrstuvwxyz"]) (r:=(r:Int) % 2) (GL _ (by decide)) (Lg _ (by decide));refine bJ (Od aj) e ?_;obtain⟨z,rfl,hz0,hz1,hzc⟩:∃z,v=Oh z/\0<z.length/\z.length<=26/\∀c∈z.cps.toList,97<=c/\c<=122:=by
   simp only[Eb,EC,or_false]at hv;rcases hv with rfl|rfl<;>exact⟨_,rfl,by decide +kernel,by decide +kernel,by decide +kernel⟩
  have S2:=S1.new (o:=.lst [Oh "ab",Oh "abcdefghijklmnopqrstuvwxyz"]) hq;generalize upd H1 q (.lst [Oh "ab",Oh "abcdefghijklmnopqrstuvwxyz"])=H2 at S2;clear e hv;nofun;refine⟨p,5,rfl,S2.tape,by decide,by decide,λr3 H3 a3 S3=>?_⟩;nofun;refine⟨p,21,rfl,S3.tape,by decide,by decide,λr4 H4 a4 S4=>?_⟩;have S24:=(S2.trans S3).trans S4;nofun;refine⟨aF (by simp),λq2 hq2=>?_⟩;have nq2:=S24.tape.ne hq2;obtain⟨H5,e9,S5,tq2⟩:=nwT S24 hq2 (.lst [Of (r3:Int),Of (r4:Int)]);rw[e9];nofun;refine⟨p,4,rfl,S5.tape,by decide,by decide,λr5 H6 a5 S6=>?_⟩;nofun;obtain⟨v,e,hv⟩:=c6 (xs:=[Of (r3:Int),Of (r4:Int)]) (r:=if decide (Of (r5:Int)=Of 0)=true then 1 else 0) (by split<;>lia) (by simp only[Ej,E2];split<;>lia);refine bJ (Od (S6.keep q2 _ tq2 nq2)) e ?_;obtain⟨n,rfl,hn⟩:∃n:Nat,v=Of n/\n<=20:=by
   simp only[Eb,EC,or_false]at hv;rcases hv with rfl|rfl
   ·exact⟨_,rfl,by lia⟩
   ·exact⟨_,rfl,by lia⟩
  have S7:=S5.trans S6;clear e hv;nofun;refine⟨rfl,?_⟩;nofun;refine⟨_,rfl,by lia,by lia,ju (n:=n) (λi ys σ H'=>St2 p H H'/\(∃zs:List Str,ys=zs.map Oh/\zs.length=i/\∀y∈zs,Ltr 1 y)/\∃v,σ=[v,some (Ou p),some (Oh z)]) (au ⋯) (λi ys σ H' h=>by obtain⟨_,⟨zs,rfl,e,_⟩,_⟩:=h;rw[DT,e]) ⟨S7,⟨[],rfl,rfl,λy h=>nomatch h⟩,none,rfl⟩ ?_ ?_⟩
  ·rintro i ys σ H' hi ⟨S8,⟨zs,rfl,hzl,hzs⟩,v,rfl⟩
   nofun;refine⟨z,rfl,aF ⋯,?_⟩;nofun;refine⟨p,_,rfl,S8.tape,by lia,by lia,λr6 H7 a6 S9=>?_⟩;obtain⟨cc,ec,hm⟩:=zO (xs:=z.cps.toList) (r:=(r6:Int)) ⋯ (by rw[show z.cps.toList.length=z.length by simp[Jo]];exact a6);refine⟨_,_,cc,rfl,rfl,aF ⋯,ec,?_⟩;refine Ol hi ⟨S8.trans S9,⟨zs++[⟨#[cc]⟩],by rw[D0];rfl,by simp[hzl],λy hy=>?_⟩,_,rfl⟩;rcases Et.mp hy with h|h
   ·exact hzs y h
   ·rw[D5.mp h]
    refine⟨DY _,λc hc=>?_⟩;have e2:c=cc:=by simpa using hc
    rw[e2];exact hzc _ hm
  ·rintro ys σ H' ⟨S8,⟨zs,rfl,hzl,hzs⟩,v,rfl⟩ l hl
   nofun;refine zY (Od aj) ?_ ?_
   ·have:=Da hzs
    have e0:(Ey "").length=0:=by decide +kernel
    rw[e0];lia
   nofun;exact k _ _ ((uc hzs).mono ⋯) (S8.new hl)
def KeyV (kind:Str) (H:Hp) (v:V):Prop:=(kind = "number"/\∃n:Int,v=.int n/\-(10 ^ 18)<n/\n<10 ^ 18)\/(kind = "part"/\∃(q:Addr) (z:Int×Nat),v=.ref q/\H q=some (.tup [.int z.1,.int z.2])/\(1<=z.2/\z.2<=60)/\-(10 ^ 18)<z.1/\z.1<10 ^ 18)\/(kind = "text"/\∃z:Str,v=.str z/\Ltr 30 z)
theorem KeyV.keep{kind:Str}{H:Hp}(h:KeyV kind H v)(s:∀b xs,H b=some (.tup xs)->H' b=some (.tup xs)):KeyV kind H' v:=by
 rcases h with h|⟨e,q,z,e2,e3,r⟩|h
 ·exact .inl h
 ·exact .inr (.inl ⟨e,q,z,e2,s _ _ e3,r⟩)
 ·exact .inr (.inr h)
theorem fK{p:Addr}{H:Hp}(S:St2 p H H')(T:Tp2 H p):∀b xs,H b=some (.tup xs)->H' b=some (.tup xs):=λb xs e=>S.keep b _ e (λz=>by
 obtain⟨x,y,e2,_⟩:=T;rw[z,e2]at e;cases e)
theorem xy {kind:Str}{H:Hp}(hk:kind = "number"\/kind = "part"\/kind = "text") (h:∀v∈xs,KeyV kind H v) (hl:xs.length<=200):∃k:Kd,k.name=kind/\KAt H k xs/\k.ok:=by
 rcases hk with rfl|rfl|rfl
 ·have:∃ns:List Int,xs=ns.map Of/\∀x∈ns,-(10 ^ 18)<x/\x<10 ^ 18:=by
   clear hl
   induction xs with
   | nil=>exact⟨[],rfl,λx h=>nomatch h⟩
   | cons v r ih=>
    obtain⟨ns,rfl,hn⟩:=ih λu hu=>h u (En _ hu)
    rcases h v (Es ..)with⟨_,n,rfl,b⟩|⟨e,_⟩|⟨e,_⟩
    ·exact⟨n::ns,rfl,λx hx=>by
      rcases Eb.mp hx with rfl|hx
      ·exact b
      ·exact hn x hx⟩
    ·exact absurd e (by decide)
    ·exact absurd e (by decide)
  obtain⟨ns,rfl,hn⟩:=this;exact⟨.nu ns,rfl,rfl,by rw[DT]at hl;exact hl,hn⟩
 ·have:∃(qs:List Addr) (tb:List (Int×Nat)),xs=qs.map Ou/\PartsT H qs tb/\(∀z∈tb,1<=z.2/\z.2<=60)/\∀z∈tb,-(10 ^ 18)<z.1/\z.1<10 ^ 18:=by
   clear hl
   induction xs with
   | nil=>exact⟨[],[],rfl,⟨rfl,λi p z h=>by simp at h⟩,λx h=>(nomatch h),λx h=>(nomatch h)⟩
   | cons v r ih=>
    obtain⟨qs,tb,rfl,hP,h1,h2⟩:=ih λu hu=>h u (En _ hu)
    rcases h v (Es ..)with⟨e,_⟩|⟨_,q,z,rfl,e3,b1,b2⟩|⟨e,_⟩
    ·exact absurd e (by decide)
    ·refine⟨q::qs,z::tb,rfl,⟨by simp[hP.1],λi p y e1 e2=>?_⟩,λx hx=>?_,λx hx=>?_⟩
     ·cases i with
      | zero=>simp at e1 e2;rw[<-e1,<-e2];exact e3
      | succ i=>exact hP.2 i p y (by simpa using e1) (by simpa using e2)
     ·rcases Eb.mp hx with rfl|hx
      ·exact b1
      ·exact h1 x hx
     ·rcases Eb.mp hx with rfl|hx
      ·exact b2
      ·exact h2 x hx
    ·exact absurd e (by decide)
  obtain⟨qs,tb,rfl,hP,h1,h2⟩:=this;exact⟨.pa tb,rfl,⟨qs,rfl,hP⟩,by rw[DT,hP.1]at hl;exact hl,h1,h2⟩
 ·have:∃zs:List Str,xs=zs.map Oh/\∀x∈zs,Ltr 30 x:=by
   clear hl
   induction xs with
   | nil=>exact⟨[],rfl,λx h=>nomatch h⟩
   | cons v r ih=>
    obtain⟨ns,rfl,hn⟩:=ih λu hu=>h u (En _ hu)
    rcases h v (Es ..)with⟨e,_⟩|⟨e,_⟩|⟨_,n,rfl,b⟩
    ·exact absurd e (by decide)
    ·exact absurd e (by decide)
    ·exact⟨n::ns,rfl,λx hx=>by
      rcases Eb.mp hx with rfl|hx
      ·exact b
      ·exact hn x hx⟩
  obtain⟨ns,rfl,hn⟩:=this;exact⟨.te ns,rfl,rfl,by rw[DT]at hl;exact hl,hn⟩
def xA:Sp:=λvs H Q _=>∃(p:Addr) (kind:Str),vs=[.ref p,.str kind]/\Tp2 H p/\(kind = "number"\/kind = "part"\/kind = "text")/\∀v H',KeyV kind H' v->St2 p H H'->Q v H'
theorem zZ (T:Tx K mg t):FnOk P t.wd K mg base CX0 4 (t.f 48) (t.d 48) ["_law_tape_here","_law_kind"] xA:=by
 refine okT (N:=["_law_tape_here","_law_kind"]) (T.fn 48 rfl) (λH Q hr nd h=>?_)
 ·obtain⟨p,kind,rfl,hT,hkind,k⟩:=h
  refine⟨_,(af (aV (aD dD (qv 1) bE (az _)) (aq (ax (aI (kT T) hr (T.fn 44 rfl) (ai (qv 0) ae)))) aK)
   (af (aV (aD dD (qv 1) bE (az _)) (aq (ax (aI (lS T) hr (T.fn 46 rfl) (ai (qv 0) ae)))) aK)
   (aq (ax (aI (xx T) hr (T.fn 47 rfl) (ai (qv 0) ae)))))),?_⟩
  dsimp only[st0];nofun;rcases hkind with hk|hk|hk
  ·refine cN (by rw[hk]) ?_
   nofun;refine⟨p,rfl,hT,λn H1 n1 n2 S1=>?_⟩;exact k _ _ (.inl ⟨hk,n,rfl,n1,n2⟩) S1
  ·refine bX (by rw[hk];decide) ?_
   nofun;refine cN (by rw[hk]) ?_;nofun;refine⟨p,rfl,hT,λq t c H1 h1 h2 h3 h4 S1 hq tq=>?_⟩;exact k _ _ (.inr (.inl ⟨hk,q,(t,c),rfl,tq,⟨h3,h4⟩,h1,h2⟩)) S1
  ·refine bX (by rw[hk];decide) ?_
   nofun;refine bX (by rw[hk];decide) ?_;nofun;refine⟨p,rfl,hT,λz H1 hz S1=>?_⟩;exact k _ _ (.inr (.inr ⟨hk,z,rfl,hz⟩)) S1
def ud:Sp:=λvs H Q _=>∃(p:Addr) (kind:Str) (n:Nat),vs=[.ref p,.str kind,.int n]/\Tp2 H p/\(kind = "number"\/kind = "part"\/kind = "text")/\n<=200/\
 ∀(l:Addr) (xs:List V) H',xs.length=n->(∀v∈xs,KeyV kind H' v)->St2 p H H'->H l=none->l≠p->H' l=some (.lst xs)->Q (.ref l) H'
theorem xB (T:Tx K mg t):FnOk P t.wd K mg base CX0 5 (t.f 49) (t.d 49) ["_law_tape_here","_law_kind","_law_many_here"] ud:=by
 refine okT (N:=["_law_tape_here","_law_kind","_law_many_here","_law_keys_here","_law_turn","_law_key_here"]) (T.fn 49 rfl) (λH Q hr nd h=>?_)
 ·obtain⟨p,kind,n,rfl,hT,hkind,hn,k⟩:=h
  refine⟨_,(af (aJ (i:=3) (bo ae))
   (af (cf Em rfl (cR rfl T.bW (ai (qv 2) ae)) (aE (i:=4)) (af (aJ (i:=5) (aI (zZ T) hr (T.fn 48 rfl) (ai (qv 0) (ai (qv 1) ae))))
   (af (aV (Oj (kc (aD (we (K:=K) hr.units0) (qv 3) (bo ae) (az _)) (gN (aD dD (aI (bz T) hr (T.fn 41 rfl) (ai (qv 0) (ai ao ae))) ao (az _))))) (aq (aJ (i:=5) (aR (bx (K:=K)) (qv 3) (aI (bz T) hr (T.fn 41 rfl) (ai (qv 0) (ai (ag (aU (K:=K)) (by rfl) T.bA aO (ai (qv 3) ae)) ae)))))) aK)
   (aq (bN (bL (K:=K) (qv 3) (ai (qv 5) ae)))))))
   (aq (ax (qv 3))))),?_⟩
  dsimp only[st0];nofun;refine⟨aF (by simp),λl hl=>?_⟩;have S1:=(St2.refl hT).new (o:=.lst []) hl;have tl1:(upd H l (.lst [])) l=some (.lst []):=aj;have hlp:l≠p:=hT.ne hl;generalize upd H l (.lst [])=H1 at S1 tl1;nofun;refine⟨_,rfl,by lia,by lia,eT (n:=n) (λi σ H3=>St2 p H H3/\(∃xs:List V,H3 l=some (.lst xs)/\xs.length=i/\∀v∈xs,KeyV kind H3 v)/\∃v w,σ=[some (Ou p),some (Oh kind),some (Of n),some (Ou l),v,w]) ⟨S1,⟨[],tl1,rfl,λv h=>nomatch h⟩,_,_,rfl⟩ ?_ ?_⟩
  ·rintro i σ H3 hi ⟨S3,⟨xs,tl3,hxl,hK⟩,v0,w0,rfl⟩
   nofun;refine⟨p,kind,rfl,S3.tape,hkind,λv1 H7 kv1 S4=>?_⟩;have S7:=S3.trans S4;have tl7:=S4.keep _ _ tl3 hlp;have K7:∀v∈xs,KeyV kind H7 v:=λv hv=>(hK v hv).keep (fK S4 S3.tape)
   clear S4 tl3 hK S3;nofun;apply Av (α:=V) (S:=λv H7=>St2 p H H7/\H7 l=some (.lst xs)/\(∀u∈xs,KeyV kind H7 u)/\KeyV kind H7 v);case hA=>
    intro key;refine⟨aF (by simp),λd hd=>?_⟩;have S8:=(St2.refl S7.tape).new (o:=.lst []) hd;have sm8:=(Oi H7).new (o:=.lst []) hd;have td:(upd H7 d (.lst [])) d=some (.lst []):=aj;generalize upd H7 d (.lst [])=H8 at S8 sm8 td;have tl8:=sm8 _ _ tl7;have K8:∀u∈xs,KeyV kind H8 u:=λu hu=>(K7 u hu).keep λb ys e=>sm8 _ _ e
    have kv8:KeyV kind H8 v1:=kv1.keep λb ys e=>sm8 _ _ e
    have S78:=S7.trans S8;refine⟨l,d,xs,rfl,rfl,Od tl8,Od td,?_⟩;by_cases hx0:xs=[]
    rotate_left 1
    ·rw[decide_eq_false hx0]
     have hxp:0<xs.length:=Fm.mpr hx0;nofun;refine⟨p,3,rfl,S78.tape,by decide,by decide,λr2 H9 a1 S9=>?_⟩;have tl9:=S9.keep _ _ tl8 hlp;have K9:∀u∈xs,KeyV kind H9 u:=λu hu=>(K8 u hu).keep (fK S9 S78.tape)
     have kv9:KeyV kind H9 v1:=kv8.keep (fK S9 S78.tape);nofun;refine a9 (λg=>?_) (λg=>?_)
     ·nofun
      refine aL (Od tl9) ?_;nofun;refine⟨p,_,rfl,S9.tape,by lia,by lia,λr3 HA c1 SA=>?_⟩;obtain⟨u,e1,hu⟩:=c6 (xs:=xs) (r:=(r3:Int)) ⋯ c1;have tlA:=SA.keep _ _ tl9 hlp;have KA:∀u∈xs,KeyV kind HA u:=λu hu=>(K9 u hu).keep (fK SA S9.tape)
      refine bJ (Od tlA) e1 ?_;have ku:=KA u hu;nofun;exact key u HA ⟨S78.trans (S9.trans SA),tlA,KA,ku⟩
     ·nofun
      exact key v1 H9 ⟨S78.trans S9,tl9,K9,kv9⟩
    ·rw[decide_eq_true hx0]
     nofun;exact key v1 H8 ⟨S78,tl8,K8,kv8⟩
   case hB=>
    clear S7 tl7 K7 kv1;rintro v2 H8 ⟨S8,tl8,K8,kv8⟩;refine⟨bq tl8,?_⟩;nofun;refine aZ tl8 (au ⋯) ?_;have tt:∀b ys,H8 b=some (.tup ys)->(upd H8 l (.lst (xs++[v2]))) b=some (.tup ys):=λb ys e=>by
     rw[aB (λz=>by rw[z,tl8]at e;cases e)];exact e
    refine⟨S8.own hl hlp,⟨xs++[v2],aj,by simp[hxl],λu hu=>?_⟩,_,_,rfl⟩;rcases Et.mp hu with h|h
    ·exact(K8 u h).keep tt
    ·rw[D5.mp h];exact kv8.keep tt
  ·rintro σ H3 ⟨S3,⟨xs,tl3,hxl,hK⟩,v0,w0,rfl⟩
   nofun;exact k l xs H3 hxl hK S3 hl hlp tl3
def ue:Sp:=λvs H Q _=>∃(p:Addr) (k:Int),vs=[.ref p,.int k]/\Tp2 H p/\
 ∀(q l:Addr) (kind:Str) (xs:List V) (b:Nat) H',(kind = "number"\/kind = "part"\/kind = "text")->H' q=some (.tup [.str kind,.ref l,.int b])->H' l=some (.lst xs)->xs.length<=200->(∀v∈xs,KeyV kind H' v)->2<=b->b<=64->l≠p->H l=none->St2 p H H'->Q (.ref q) H'
theorem xC (T:Tx K mg t):FnOk P t.wd K mg base CX0 6 (t.f 51) (t.d 51) ["_law_tape_here","_law_k"] ue:=by
 refine okT (N:=["_law_tape_here","_law_k","_law_kind","_law_many_here"]) (T.fn 51 rfl) (λH Q hr nd h=>?_)
 ·obtain⟨p,kk,rfl,hT,k⟩:=h
  refine⟨_,(af (aJ (i:=2) (aR (bx (K:=K)) (bo (ai bE (ai bE (ai bE ae)))) (aI (bz T) hr (T.fn 41 rfl) (ai (qv 0) (ai ao ae)))))
   (af (aJ (i:=3) (aI (w5 T) hr (T.fn 42 rfl) (ai (qv 0) (ai (qv 1) ae))))
   (af (aV (aD dD (qv 2) bE (az _)) (aq (aJ (i:=3) (ag (uC rfl) (by rfl) T.lX ng (ai (qv 3) (ai ao ae))))) aK)
   (af (aV (Oj (kc (aD dD (qv 2) bE (az _)) (gN (aD dD (qv 3) ao (az _))))) (aq (aJ (i:=3) ao)) aK)
   (aq (ax (ba (ai (qv 2) (ai (aI (xB T) hr (T.fn 49 rfl) (ai (qv 0) (ai (qv 2) (ai (qv 3) ae)))) (ai (aI (xa T) hr (T.fn 43 rfl) (ai (qv 0) ae)) ae)))))))))),?_⟩
  dsimp only[st0];nofun;refine⟨aF (by simp),λq hq=>?_⟩;have S1:=(St2.refl hT).new (o:=.lst [Oh "number",Oh "part",Oh "text"]) hq;have tq:(upd H q (.lst [Oh "number",Oh "part",Oh "text"])) q=some (.lst [Oh "number",Oh "part",Oh "text"]):=aj;have nq:=hT.ne hq;generalize upd H q (.lst [Oh "number",Oh "part",Oh "text"])=H1 at S1 tq;nofun;refine⟨p,3,rfl,S1.tape,by decide,by decide,λr H2 a2 S2=>?_⟩;obtain⟨v,e,hv⟩:=c6 (xs:=[Oh "number",Oh "part",Oh "text"]) (r:=(r:Int)) ⋯ a2;refine bJ (Od (S2.keep q _ tq nq)) e ?_;obtain⟨kind,rfl,hk⟩:∃kind,v=Oh kind/\(kind = "number"\/kind = "part"\/kind = "text"):=by
   simp only[Eb,EC,or_false]at hv;rcases hv with rfl|rfl|rfl
   ·exact⟨_,rfl,.inl rfl⟩
   ·exact⟨_,rfl,.inr (.inl rfl)⟩
   ·exact⟨_,rfl,.inr (.inr rfl)⟩
  clear e hv;have S12:=S1.trans S2;nofun;refine⟨p,kk,rfl,S12.tape,λm H3 hm S3=>?_⟩;have S13:=S12.trans S3;have fin:∀(l:Addr) (xs:List V) (b:Nat) (H4 H5:Hp) (z:Addr),xs.length<=200->(∀v∈xs,KeyV kind H4 v)->St2 p H3 H4->H3 l=none->l≠p->H4 l=some (.lst xs)->2<=b->b<=64->St2 p H4 H5->H5 z=none->Q (.ref z) (upd H5 z (.tup [.str kind,.ref l,.int b])):=λl xs b H4 H5 z hxl hK S4 hl hlp tl hb hb2 S5 hz=>by
   have tl5:=S5.keep _ _ tl hlp;have hK5:∀v∈xs,KeyV kind H5 v:=λv hv=>(hK v hv).keep (fK S5 S4.tape)
   have S15:=S13.trans (S4.trans S5);have sm:=(Oi H5).new (o:=.tup [.str kind,.ref l,.int b]) hz;exact k z l kind xs b _ hk aj (sm _ _ tl5) hxl (λv hv=>(hK5 v hv).keep λb ys e=>sm _ _ e) hb hb2 hlp (S13.free hl) (S15.new hz)
  nofun;by_cases hpt:kind = "part"
  ·refine cN (by rw[hpt]) ?_
   nofun;obtain⟨n,en,hn⟩:∃n:Nat,(if(20:Int)<(m:Int)then 20 else(m:Int))=(n:Int)/\n<=200:=by
    split
    ·exact⟨20,rfl,by decide⟩
    ·exact⟨m,rfl,by lia⟩
   rw[en];refine bX (by rw[hpt];decide) ?_;nofun;refine⟨p,kind,n,rfl,S13.tape,hk,hn,λl xs H4 hxl hK S4 hl hlp tl=>?_⟩;nofun;refine⟨p,rfl,S4.tape,λb H5 hb hb2 S5=>?_⟩;nofun;exact⟨aF (by simp),λz hz=>fin l xs b H4 H5 z ⋯ hK S4 hl hlp tl hb hb2 S5 hz⟩
  ·refine bX (λz=>hpt (Oh.inj z)) ?_
   nofun;have go:∀n:Nat,n<=200->n=n:=λ_ _=>rfl
   by_cases hnu:kind = "number"
   ·refine cN (by rw[hnu]) ?_
    nofun;refine a9 (λg=>?_) (λg=>?_)
    ·nofun
     refine⟨p,kind,200,rfl,S13.tape,hk,by decide,λl xs H4 hxl hK S4 hl hlp tl=>?_⟩;nofun;refine⟨p,rfl,S4.tape,λb H5 hb hb2 S5=>?_⟩;nofun;exact⟨aF (by simp),λz hz=>fin l xs b H4 H5 z ⋯ hK S4 hl hlp tl hb hb2 S5 hz⟩
    ·nofun
     refine⟨p,kind,m,rfl,S13.tape,hk,by lia,λl xs H4 hxl hK S4 hl hlp tl=>?_⟩;nofun;refine⟨p,rfl,S4.tape,λb H5 hb hb2 S5=>?_⟩;nofun;exact⟨aF (by simp),λz hz=>fin l xs b H4 H5 z ⋯ hK S4 hl hlp tl hb hb2 S5 hz⟩
   ·refine bX (λz=>hnu (Oh.inj z)) ?_
    nofun;refine⟨p,kind,m,rfl,S13.tape,hk,by lia,λl xs H4 hxl hK S4 hl hlp tl=>?_⟩;nofun;refine⟨p,rfl,S4.tape,λb H5 hb hb2 S5=>?_⟩;nofun;exact⟨aF (by simp),λz hz=>fin l xs b H4 H5 z ⋯ hK S4 hl hlp tl hb hb2 S5 hz⟩
theorem z7(h:Ltr n z):JF z=true:=by
 unfold JF;rw[<-Array.all_toList];exact FM.mpr λc hc=>decide_eq_true (by have:=h.2 c hc;lia)
theorem xD{kind:Str}{H:Hp}(h:KeyV kind H v):∃d,DatE 1 H v d:=by
 rcases h with⟨_,n,rfl,_⟩|⟨_,q,z,rfl,e,_⟩|⟨_,z,rfl,hz⟩
 ·exact⟨_,DatE.int n⟩
 ·refine⟨.tuple [.int z.1,.int z.2],DatE.tup e rfl λi u d e1 e2=>?_⟩
  match i,e1,e2 with
  | 0,e1,e2=>cases e1;cases e2;exact DatE.int _
  | 1,e1,e2=>cases e1;cases e2;exact DatE.int _
  | i+2,e1,e2=>simp at e1
 ·exact⟨_,DatE.str (z7 hz)⟩
theorem nr{kind:Str}{H:Hp}:∀{us:List V},(∀v∈us,KeyV kind H v)->∃ds:List PyData,us.length=ds.length/\∀(i:Nat) u e,us[i]? = some u->ds[i]? = some e->DatE 1 H u e
 | [],_=>⟨[],rfl,λi u e h=>by simp at h⟩
 | v::us,h=>by
  obtain⟨d,hd⟩:=xD (h v (Es ..));obtain⟨ds,hl,hds⟩:=nr (us:=us) λx hx=>h x (En _ hx)
  refine⟨d::ds,by simp[hl],λi u e e1 e2=>?_⟩;cases i with
  | zero=>simp at e1 e2;rw[<-e1,<-e2];exact hd
  | succ i=>exact hds i u e (by simpa using e1) (by simpa using e2)
noncomputable def Kd.lt:Kd->Nat->Nat->Bool
 | .nu ns=>ltN ns
 | .pa tb=>ltP tb
 | .te zs=>ltT zs
def DH:Sp:=λvs H Q _=>∃(k:Kd) (us:List V) (i j:Nat) (x y:V),vs=[.str k.name,x,y]/\KAt H k us/\k.ok/\us[i]? = some x/\us[j]? = some y/\Q (.bl (k.lt i j)) H
theorem uf (T:Tx K mg t):FnOk P t.wd K mg base CX0 1 (t.f 52) (t.d 52) ["_law_kind","_law_one","_law_other"] DH:=by
 refine okT (N:=["_law_kind","_law_one","_law_other"]) (T.fn 52 rfl) (λH Q hr nd h=>?_)
 ·obtain⟨k,us,i,j,x,y,rfl,hA,hk,ex,ey,q⟩:=h
  cases k with
  | nu ns=>
   obtain rfl:us=ns.map Of:=hA;obtain⟨a,rfl,ea,_,_⟩:=aH ex;obtain⟨b,rfl,eb,_,_⟩:=aH ey;have e:(Kd.nu ns).lt i j=decide (a<b):=by show ltN ns i j=_;unfold ltN;rw[cz ea,cz eb]
   rw[e]at q;refine⟨_,(af (aV (aD dD (qv 0) bE (az _)) (aq cm) aK)
   (aq (ax (aQ oG (qv 1) (qv 2) (az _))))),?_⟩
   dsimp only[st0];nofun;refine bX (show ¬Oh (Ey "number")=Oh (Ey "part")by decide) ?_;nofun;exact q
  | te zs=>
   obtain rfl:us=zs.map Oh:=hA;obtain⟨a,rfl,ea,ha,_⟩:=aH ex;obtain⟨b,rfl,eb,hb,_⟩:=aH ey;have e:(Kd.te zs).lt i j=decide (a.cps.toList<b.cps.toList):=by show ltT zs i j=_;unfold ltT;rw[cz ea,cz eb]
   rw[e]at q;refine⟨_,(af (aV (aD dD (qv 0) bE (az _)) (aq cm) aK)
   (aq (ax (aQ wJ (qv 1) (qv 2) (az _))))),?_⟩
   dsimp only[st0];nofun;refine bX (show ¬Oh (Ey "text")=Oh (Ey "part")by decide) ?_;nofun;exact q
  | pa tb=>
   obtain⟨qs,rfl,hP⟩:=hA;obtain⟨p1,rfl,e1,_,hi⟩:=aH ex;obtain⟨p2,rfl,e2,_,hj⟩:=aH ey;have hi2:i<tb.length:=by rw[<-hP.1];exact hi
   have hj2:j<tb.length:=by rw[<-hP.1];exact hj
   have t1:=hP.2 i p1 tb[i] e1 (DR hi2);have t2:=hP.2 j p2 tb[j] e2 (DR hj2);have b1:=hk.2.1 _ (D1 hi2);have b2:=hk.2.1 _ (D1 hj2);have c1:=hk.2.2 _ (D1 hi2);have c2:=hk.2.2 _ (D1 hj2);have e:(Kd.pa tb).lt i j=decide (tb[i].1*(tb[j].2:Int)<tb[j].1*(tb[i].2:Int)):=by show ltP tb i j=_;unfold ltP;rw[cz (DR hi2),cz (DR hj2)]
   rw[e]at q;generalize tb[i]=z1 at *;generalize tb[j]=z2 at *;refine⟨_,(af (aV (aD dD (qv 0) bE (az _)) (aq (ax (aQ oG (aG dG (aR (eZ (K:=K)) (qv 1) ao) (aR (eZ (K:=K)) (qv 2) ao)) (aG dG (aR (eZ (K:=K)) (qv 2) ao) (aR (eZ (K:=K)) (qv 1) ao)) (az _)))) aK)
   (aq cm)),?_⟩
   dsimp only[st0];nofun;refine cN rfl ?_;nofun;exact q
def LtK(rss:List (List Nat))(k:Kd):Prop:=rss.length=k.len/\∀i j,i<k.len->j<k.len->lxt (rss.getD i []) (rss.getD j [])=k.lt i j
theorem lT{α:Type}{zs:List α}{f:α->List Nat}{g:α->List Int}{L:Nat->Nat->Bool}(hf:∀z∈zs,bH (f z)=g z)(h:Rises (zs.map g) L)(hi:i<zs.length)(hj:j<zs.length):lxt ((zs.map f).getD i []) ((zs.map f).getD j [])=L i j:=by
 have e1:(zs.map f).getD i []=f zs[i]:=by rw[DS,DX,DR hi];rfl
 have e2:(zs.map f).getD j []=f zs[j]:=by rw[DS,DX,DR hj];rfl
 rw[e1,e2];show HT.cM (bH (f zs[i])) (bH (f zs[j]))=L i j
 rw[hf _ (D1 hi),hf _ (D1 hj)];exact h i j _ _ (by rw[DX,DR hi];rfl) (by rw[DX,DR hj];rfl)
theorem Kd.rows.lt{k:Kd}{w:Nat}{rss:List (List Nat)}(h:k.rows b rss w by')(hk:k.ok)(hb:2<=b)(hb2:b<=64):LtK rss k:=by
 refine⟨(h.good hk hb hb2).2.1,λi j hi hj=>?_⟩;cases k with
 | nu ns=>
  obtain⟨⟨zs,h,rfl⟩,_⟩:=h;have hl:=h.len;exact lT (λz _=>q9 z b w) (qY h hb) (by have:i<ns.length:=hi;lia) (by have:j<ns.length:=hj;lia)
 | pa tb=>
  obtain⟨⟨zs,h,rfl⟩,_⟩:=h;have hl:=h.len;have hw:(bP tb).length=tb.length:=by unfold bP;simp
  exact lT (λz _=>q9 z b w) (xo h hb hk.2.1) (by have:i<tb.length:=hi;lia) (by have:j<tb.length:=hj;lia)
 | te zs=>
  obtain⟨⟨hM,_,rfl⟩,_⟩:=h;exact lT (λz hz=>u0 (hk.2 z hz)) (xp hk.2 hM) hi hj
theorem OrdR.one{rss:List (List Nat)}{os os':List Nat}(h:OrdR rss os)(h':OrdR rss os'):os=os':=
 iX (λi j a b=>(Rk.asymm a b).elim) (h.1.trans h'.1.symm) h.2 h'.2
noncomputable def lU(k:Kd)(i j:Nat):Bool:=!k.lt i j
theorem z8(os:List Nat)(m k:Nat):(NV os).take m++Of (k:Nat)::(NV os).drop m=NV (os.take m++k::os.drop m):=by
 unfold NV;rw[D0,Ez,Gi,GG]
theorem ug{k:Kd}{os:List Nat}(hi:i<k.len)(hP:os.Perm (DZ i))(hS:∀rss,LtK rss k->os.Pairwise (Rk rss 0)):
  (os.take (os.countP (lU k i))++i::os.drop (os.countP (lU k i))).Perm (DZ (i+1))/\∀rss,LtK rss k->(os.take (os.countP (lU k i))++i::os.drop (os.countP (lU k i))).Pairwise (Rk rss 0):=by
 refine⟨?_,λrss h=>?_⟩
 ·refine LO.trans ?_
  rw[EW,J0];exact(hP.cons i).trans (Jd i _).symm
 ·have e:os.countP (lU k i)=os.countP (gp rss i):=List.countP_congr λj hj=>by
   have hj:j<i:=EF.mp (hP.mem_iff.mp hj);unfold lU gp;rw[h.2 i j hi ⋯]
  rw[e];exact(sV hP (hS rss h)).2
def DI:Sp:=λvs H Q _=>∃(k:Kd) (us:List V) (a:Addr),vs=[.str k.name,.ref a]/\H a=some (.lst us)/\KAt H k us/\k.ok/\
 ∀(l:Addr) (os:List Nat) H',H l=none->Same H H'->H' l=some (.lst (NV os))->os.Perm (DZ us.length)->(∀rss,LtK rss k->os.Pairwise (Rk rss 0))->Q (.ref l) H'
theorem kU (T:Tx K mg t):FnOk P t.wd K mg base CX0 2 (t.f 53) (t.d 53) ["_law_kind","_law_keys_here"] DI:=by
 refine okT (N:=["_law_kind","_law_keys_here","_law_order","_law_k","_law_key_here","_law_at"]) (T.fn 53 rfl) (λH Q hr nd h=>?_)
 ·obtain⟨k,us,a,rfl,ta,hA,hk,q⟩:=h
  have hul:us.length<=200:=by rw[hA.len];exact hk.le
  have hkl:us.length=k.len:=hA.len;refine⟨_,(af (aJ (i:=2) (bo ae))
   (af (cf Em rfl (gW (K:=K) rfl T.cE (ai (qv 1) ae)) (bM (K:=K) (n:=2) rfl (av (aE (i:=3)) (av (aE (i:=4)) aY))) (af (aJ (i:=5) (ag (aU (K:=K)) (by rfl) T.bA aO (ai (mI (N:=["_law_j","_law_kind","_law_keys_here","_law_key_here"]) (tgs:=["_law_j"]) (frs:=["_law_kind","_law_keys_here","_law_key_here"]) (ix:=[0,1,4]) ⟨rfl,by decide +kernel,rfl,by decide +kernel,rfl,rfl,⟨⟨rfl,rfl,_,rfl,rfl⟩,⟨rfl,rfl,_,rfl,rfl⟩,⟨rfl,rfl,_,rfl,rfl⟩,D3⟩,⟨rfl,rfl,rfl,D3⟩,rfl⟩ rfl (aS (K:=K) (qv 2)) (λ_ _ _ _=>(aE (i:=0))) (λ_ _ _ _=>(qv 0)) (λ_ _ _ _=>(fZ (bB (aI (uf T) hr (T.fn 52 rfl) (ai (qv 1) (ai (qv 3) (ai (aR (bx (K:=K)) (qv 2) (qv 0)) ae)))))))) ae)))
   (aq (bN (qb (K:=K) (qv 2) (ai (qv 5) (ai (qv 3) ae)))))))
   (aq (ax (qv 2))))),?_⟩
  dsimp only[st0];nofun;refine⟨aF (by simp),λl hl=>?_⟩;obtain⟨H1,e9,s1,(tl:H1 l=some (.lst (NV [])))⟩:=nwR hl (.lst []);rw[e9];nofun;refine⟨a,rfl,⟨_,Od (s1 _ _ ta)⟩,eF (n:=us.length) (λi σ H'=>Same H H'/\(∃os:List Nat,H' l=some (.lst (NV os))/\os.Perm (DZ i)/\∀rss,LtK rss k->os.Pairwise (Rk rss 0))/\∃v2 v3 v4,σ=[some (Oh k.name),some (Ou a),some (Ou l),v2,v3,v4]) ⟨s1,⟨[],tl,FP _,λ_ _=>GP⟩,_,_,_,rfl⟩ ?_ ?_ ?_ ?_⟩
  ·rintro i σ H2 hi ⟨s2,_⟩
   exact⟨_,us[i],Od (s2 _ _ ta),DR hi⟩
  ·rintro σ H2 ⟨s2,_⟩
   exact⟨_,Od (s2 _ _ ta),rfl⟩
  ·rintro i x σ H2 H3 hi ⟨s2,⟨os,t2,hP,hS⟩,v2,v3,v4,rfl⟩ ⟨p,x1,rfl,hq,rfl,hx1⟩
   have hx2:=hx1 _ (Od (s2 _ _ ta));rw[DR hi]at hx2;cases hx2;refine bu aj ?_;dsimp only[E7];obtain⟨H3,e9,s3,e8,_⟩:=nwD s2 hq (.tup [Of (i:Nat),us[i]]);rw[e9];have t3:=e8 _ _ t2;have hosl:os.length=i:=by have:=hP.length_eq;simpa using this
   nofun;refine⟨l,rfl,⟨_,Od t3⟩,kl (a:=l) (vs:=NV os) (λj ys σ H'=>Same H3 H'/\ys=NV ((os.take j).filter (lU k i))/\∃v,σ=[v,some (Oh k.name),some (Ou a),some us[i]]) (by rw[aC];exact au ⋯) (λj ys σ H' h=>by rw[h.2.1,aC];exact ET (Ge _ _) (by rw[Ee];lia)) (λj ys σ H' h=>Od (h.1 _ _ t3)) ⟨Oi _,rfl,none,rfl⟩ ?_ ?_⟩
   ·rintro j ys σ H4 x hx ⟨s4,rfl,v,rfl⟩
    have hjl:=br hx;obtain⟨q,rfl,hq,hqm,hj⟩:=aH hx;have hqi:q<i:=by simpa using hP.mem_iff.mp hqm
    have hqu:q<us.length:=by lia
    nofun;refine bJ (Od (s4 _ _ (s3 _ _ ta))) (v:=us[q]) (bg (DR hqu)) ?_;refine⟨k,us,i,q,us[i],us[q],rfl,hA.same (s3.trans s4),hk,DR _,DR _,?_⟩;have et:(os.take (j+1)).filter (lU k i)=(os.take j).filter (lU k i)++[q].filter (lU k i):=by rw[D7,hq,FC];rfl
    nofun;by_cases hp:lU k i q=true
    ·have e:k.lt i q=false:=by unfold lU at hp;simpa using hp
     rw[e];nofun;refine Ol hjl ⟨s4,?_,_,rfl⟩;rw[bU,et,JJ hp];rfl
    ·have e:k.lt i q=true:=by unfold lU at hp;simpa using hp
     rw[e];refine Ol hjl ⟨s4,?_,_,rfl⟩;rw[et,JK hp,J6,E1]
   rintro ys σ H4 ⟨s4,rfl,v,rfl⟩ z hz;rw[DW (by rw[aC];exact DY _)];obtain⟨H5,e9,s5,tz⟩:=nwS s4 hz (.lst (NV (os.filter (lU k i))));rw[e9];nofun;refine aL (Od tz) ?_;rw[aC,<-List.countP_eq_length_filter];have hcl:os.countP (lU k i)<=os.length:=Kn;obtain⟨q1,q2⟩:=ug ⋯ hP hS;nofun;refine⟨bq (s5 _ _ t3),?_⟩;nofun;refine qd (s5 _ _ t3) (by rw[aC];exact hcl) (by rw[aC];exact au ⋯) ?_;rw[z8];exact⟨(s3.trans s5).own hl,⟨_,aj,q1,q2⟩,_,_,_,rfl⟩
  ·rintro σ H2 ⟨s2,⟨os,t2,hP,hS⟩,v2,v3,v4,rfl⟩
   nofun;exact q l os H2 hl s2 t2 hP hS
def uh(K:DU):Sp:=λvs H Q _=>∃(a:Addr) (ns:List Int),vs=[.ref a]/\SqL K H a (ns.map Of)/\ns.length<=63/\∀H',Q (.bl true) H'
def KL(kind:Str)(H:Hp)(l:Addr)(us:List V):Prop:=H l=some (.lst us)/\us.length<=200/\∀v∈us,KeyV kind H v
theorem KL.same{kind:Str}{H:Hp}(h:KL kind H l us)(s:Same H H1):KL kind H1 l us:=⟨s _ _ h.1,h.2.1,λv hv=>(h.2.2 v hv).keep λb xs e=>s _ _ e⟩
theorem ui{k:Kd}{w:Nat}{n1 n2 n3:Int}{rss:List (List Nat)}(hb:2<=b)(hb2:b<=64)(hk:k.ok)(hr:k.rows b rss w by')(h:Ci k b n1 n2 n3):n1=(lP rss w by':Nat)/\n2=xM rss (ncl rss w)/\n3=ox rss:=by
 obtain⟨rss',w',c',zss,r,g,rfl,rfl,rfl⟩:=h;obtain⟨rfl,rfl,rfl⟩:=r.uniq hb hr;exact⟨rfl,oA (r.good hk hb hb2).1 g,rfl⟩
theorem xE{H:Hp}{b:Addr}(ha:H a=some (.lst xs))(hb:H b=some (.lst ys))(hl:xs.length=ys.length)(h2:xs.length<=200)(h:∀(i:Nat) u v,xs[i]? = some u->ys[i]? = some v->SmAt n H u v):SmAt (n+1) H (.ref a) (.ref b):=.inr (.inl ⟨a,b,xs,ys,rfl,rfl,ha,hb,hl,h2,h⟩)
theorem z9{H:Hp}{k:Kd}{b:Addr}(ha:H a=some (.lst xs))(hb:H b=some (.lst ys))(hx:KAt H k xs)(hy:KAt H k ys)(h2:xs.length<=200):SmAt 2 H (.ref a) (.ref b):=by
 refine xE ha hb (hx.len.trans hy.len.symm) h2 λi u v e1 e2=>?_
 cases k with
 | nu ns=>
  obtain rfl:xs=ns.map Of:=hx;obtain rfl:ys=ns.map Of:=hy;rw[e1]at e2;cases e2;obtain⟨n,rfl,_⟩:=aH e1;exact SmAt.int 1 n
 | te zs=>
  obtain rfl:xs=zs.map Oh:=hx;obtain rfl:ys=zs.map Oh:=hy;rw[e1]at e2;cases e2;obtain⟨n,rfl,_⟩:=aH e1;exact SmAt.sc 1 (.inr (.inr (.inr ⟨n,rfl⟩)))
 | pa tb=>
  obtain⟨qs,rfl,hP⟩:=hx;obtain⟨ps,rfl,hR⟩:=hy;obtain⟨q,rfl,hq,_,hi⟩:=aH e1;obtain⟨p,rfl,hp,_,_⟩:=aH e2;have et:=DR (l:=tb) (i:=i) (by rw[<-hP.1];exact hi);refine .inr (.inr ⟨q,p,_,_,rfl,rfl,hP.2 i q _ hq et,hR.2 i p _ hp et,rfl,by simp,λj u v f1 f2=>?_⟩);rw[f1]at f2;cases f2
  match j,f1 with
  | 0,f1=>cases f1;exact SmAt.int 0 _
  | 1,f1=>cases f1;exact SmAt.int 0 _
  | j+2,f1=>simp at f1
theorem nt{H:Hp}{tb:List (Int×Nat)}(ha:H a=some (.lst (qs.map Ou)))(hP:PartsT H qs tb):DatE 2 H (.ref a) (.list (tb.map λz=>.tuple [.int z.1,.int z.2])):=DatE.lst ha (by simp[hP.1]) λi u e e1 e2=>by
 obtain⟨p,rfl,hp,_,_⟩:=aH e1;obtain⟨z,hz,rfl⟩:=map_some e2;refine DatE.tup (hP.2 i p z hp hz) rfl λj u d f1 f2=>?_
 match j,f1,f2 with
 | 0,f1,f2=>cases f1;cases f2;exact DatE.int _
 | 1,f1,f2=>cases f1;cases f2;exact DatE.int _
 | j+2,f1,f2=>simp at f1
theorem xF{H:Hp}{k:Kd}{os:List Nat}(h:KAt H k us)(hO:∀o∈os,o<us.length):KAt H (k.sel os) (os.map λo=>us.getD o .non):=by
 cases k with
 | nu ns=>
  obtain rfl:us=ns.map Of:=h;show _=(os.map λo=>ns.getD o 0).map Of
  rw[ED];refine Eo λo ho=>?_
  have:=hO o ho;rw[DT]at this;simp[DS,this]
 | te zs=>
  obtain rfl:us=zs.map Oh:=h;show _=(os.map λo=>zs.getD o "").map Oh
  rw[ED];refine Eo λo ho=>?_
  have:=hO o ho;rw[DT]at this;simp[DS,this]
 | pa tb=>
  obtain⟨qs,rfl,hP⟩:=h;refine⟨os.map λo=>qs.getD o 0,?_,by simp,λi p z e1 e2=>?_⟩
  ·rw[ED]
   refine Eo λo ho=>?_
   have:=hO o ho;rw[DT]at this;simp[DS,this]
  ·obtain⟨o,ho,rfl⟩:=map_some e1
   obtain⟨o2,ho2,rfl⟩:=map_some e2;rw[ho]at ho2;cases ho2;have:=hO o (Ew ho);rw[DT]at this;exact hP.2 o _ _ (by rw[DS,DR this];rfl) (by rw[DS,DR (by rw[<-hP.1];exact this)];rfl)
def LstK(H:Hp)(k:Kd)(us ls:List V):Prop:=(∃(tb:List (Int×Nat)) (qs:List Addr),k=.pa tb/\ls=qs.map Ou/\PartsL H qs (tb.take ls.length))\/((∀tb,k≠.pa tb)/\ls=us.take ls.length)
theorem LstK.same{H H1:Hp}{k:Kd}{us ls:List V}(h:LstK H k us ls)(s:Same H H1):LstK H1 k us ls:=h.elim (λ⟨tb,qs,a,b,c⟩=>.inl ⟨tb,qs,a,b,c.same s⟩) .inr
theorem LstK.hand{H:Hp}{k:Kd}{ls:List V}(h:LstK H k us ls)(hA:KAt H k us)(hl:ls.length=us.length)(ha:H a=some (.lst ls)):Hand H k a ls:=by
 rcases h with⟨tb,qs,rfl,rfl,hP⟩|⟨_,e⟩
 ·rw[hl,hA.len]at hP
  exact .inr ⟨tb,qs,rfl,rfl,ha,by rwa [show tb.take (Kd.len (.pa tb))=tb from G0]at hP⟩
 ·rw[hl,G0]at e
  exact .inl ⟨.inl ha,by rw[e];exact hA⟩
def wayN (wy:Str) (n1 n2 n3 m:Int):Prop:=(wy = "last"/\m=n1)\/(wy = "first"/\m=n2)\/(wy = "runs"/\m=n3)
theorem wayN.of{k:Kd}{w:Nat}{n1 n2 n3 m:Int}{rss:List (List Nat)}{wy:Str}(hb:2<=b)(hb2:b<=64)(hk:k.ok)(hr:k.rows b rss w by')(h:Ci k b n1 n2 n3)(hM:xO wy rss w by' m):wayN wy n1 n2 n3 m:=by
 obtain⟨rfl,rfl,rfl⟩:=ui hb hb2 hk hr h;exact hM
theorem wayN.val {wy:Str}{n1 n2 n3 m:Int}(h:wayN wy n1 n2 n3 m):jH (fx [] [((.inr "last" : Key),Of n1),(.inr "first",Of n2),(.inr "runs",Of n3)]) (.inr wy)=some (.int m):=by
 rcases h with⟨rfl,rfl⟩|⟨rfl,rfl⟩|⟨rfl,rfl⟩<;>rfl
def WyAt (kd:Kd) (H:Hp) (v:V):Prop:=∃(u:Addr) (way:Str) (h:Addr) (us:List V),v=.ref u/\H u=some (.tup [.str way,.ref h])/\(way = "last"\/way = "first"\/way = "runs")/\Hand H kd h us
theorem WyAt.same{kd:Kd}{H H1:Hp}{v:V}(h:WyAt kd H v)(s:Same H H1):WyAt kd H1 v:=let⟨u,w,q,us,a,b,c,d⟩:=h;⟨u,w,q,us,a,s _ _ b,c,d.same s⟩
theorem Aa (T:Tx K mg t):FnOk P t.wd K mg base CX0 7 t.Af t.Ae ["_law_script"] (uh K):=by
 have nd:=sc_law.nd;refine T.Cu.okQ sc_law (λvs H Q E h=>?_) (λcdv A outer s H vs Q E hr h=>?_)
 ·obtain⟨a,ns,rfl,_⟩:=h
  rfl
 ·obtain⟨a,ns,rfl,hS,hlen,k⟩:=h
  refine⟨_,(af (cf Em rfl (cR rfl T.bW (ai (aG cI ao (ag (uC rfl) (by rfl) T.lX ng (ai ao (ai (ag (aU (K:=K)) (by rfl) T.bA aO (ai (qv 0) ae)) ae)))) ae)) (aE (i:=1)) (af (da (aI (xC T) hr (T.fn 51 rfl) (ai (aI (wY T) hr (T.fn 40 rfl) (ai (qv 0) (ai (qv 1) ae))) (ai (qv 1) ae))) (bM (K:=K) (n:=3) rfl (av (aE (i:=2)) (av (aE (i:=3)) (av (aE (i:=4)) aY)))))
   (af (aJ (i:=5) (aT (ll (K:=K)) (by rfl) T.bZ bV (ai (qv 3) ae)))
   (af (aJ (i:=6) (aI (kU T) hr (T.fn 53 rfl) (ai (qv 2) (ai (qv 3) ae))))
   (af (aJ (i:=7) (aT (tL (K:=K) rfl) (by rfl) T.nA wW (ai (aI (iK T) hr (T.fn 38 rfl) (ai (qv 2) (ai (qv 3) (ai (qv 4) ae)))) ae)))
   (af (gR (i:=8) (N:=["_law_key_here","_law_kind"]) (tgs:=["_law_key_here"]) (frs:=["_law_kind"]) (ix:=[2])  nd rfl (Fh rfl) ⟨rfl,by decide +kernel,rfl,by decide +kernel,rfl,rfl,⟨⟨rfl,rfl,_,rfl,rfl⟩,D3⟩,⟨rfl,D3⟩,rfl⟩ rfl (aS (K:=K) (qv 3)) (λ_ _ _ _=>(aE (i:=0))) (λ_ _ _ _=>(sk (aD dD (qv 1) bE (az _)) (aT (ll (K:=K)) (by rfl) T.bZ bV (ai (qv 0) ae)) (qv 0))))
   (af (aJ (i:=9) (bo (ai (ba (ai bE (ai (qv 3) ae))) (ai (ba (ai bE (ai (aT (bY (K:=K)) (by rfl) T.aW aP (ai (qv 3) ae)) ae))) (ai (ba (ai bE (ai (qv 8) ae))) (ai (ba (ai bE (ai (qv 8) ae))) ae))))))
   (aq (cf Em rfl (aS (K:=K) (qv 9)) (bM (K:=K) (n:=2) rfl (av (aE (i:=10)) (av (aE (i:=11)) aY))) (af (aJ (i:=12) (aI (oB T) hr (T.fn 39 rfl) (ai (qv 10) (ai (qv 2) (ai (qv 11) (ai (qv 4) ae))))))
   (af (aJ (i:=13) (ba (ai (bj (N:=["_law_place","_law_keys_here"]) (tgs:=["_law_place"]) (frs:=["_law_keys_here"]) (ix:=[3]) ⟨rfl,by decide +kernel,rfl,by decide +kernel,rfl,rfl,⟨⟨rfl,rfl,_,rfl,rfl⟩,D3⟩,⟨rfl,D3⟩,rfl⟩ rfl (aS (K:=K) (qv 6)) (λ_ _ _ _=>(aE (i:=0))) (λ_ _ _ _=>(aR (bx (K:=K)) (qv 1) (qv 0)))) (ai (qv 6) (ai (wF (nQ hr) (qv 7) (qv 10)) ae)))))
   (af (aV (Oj (gO (fZ (bB (aI (xf T) hr (T.fn 50 rfl) (ai (qv 12) (ai (qv 13) ae))))) (gO (aD (zz hr.units) (qv 3) (qv 5) (az _)) (eY (aD xI (ag (aU (K:=K)) (by rfl) T.bA aO (ai (qv 8) ae)) (ag (aU (K:=K)) (by rfl) T.bA aO (ai (qv 3) ae)) (az _)))))) (aq (ax gM)) aK)
   (af (aV (Oj (kc (aD dD (qv 2) bE (az _)) (gN (aD (zz hr.units) (bj (N:=["_law_key_here"]) (tgs:=["_law_key_here"]) (frs:=[]) (ix:=[]) ⟨rfl,by decide +kernel,rfl,by decide +kernel,rfl,rfl,D3,D3,rfl⟩ rfl (aS (K:=K) (qv 8)) (λ_ _ _ _=>(aE (i:=0))) (λ_ _ _ _=>(aT (bY (K:=K)) (by rfl) T.aW aP (ai (qv 0) ae)))) (qv 3) (az _))))) (aq (ax gM)) aK)
   (af (bN (bL (K:=K) (aR (eZ (K:=K)) (qv 12) ao) (ai bE ae)))
   (aq (bN (nX (K:=K) (aR (eZ (K:=K)) (qv 12) ao))))))))))))))))))
   (aq (ax gM))),?_⟩
  rw[show L2.start ["_law_script","_law_k","_law_kind","_law_keys_here","_law_base_here","_law_kept","_law_order","_law_ahead_here","_law_listed","_law_ways","_law_way","_law_handed","_law_found","_law_due"] [Ou a]=[some (Ou a),none,none,none,none,none,none,none,none,none,none,none,none,none]from rfl];nofun;refine aL hS ?_;nofun;have hml:(Nj Of ns).length=ns.length:=DT ..;refine⟨_,rfl,by(repeat' split)<;>lia,by(repeat' split)<;>lia,eT (λi σ H'=>Same H H'/\∃v1 v2 v3 v4 v5 v6 v7 v8 v9 va vb vc vd,σ=[some (Ou a),v1,v2,v3,v4,v5,v6,v7,v8,v9,va,vb,vc,vd]) ⟨Oi _,_,_,_,_,_,_,_,_,_,_,_,_,_,rfl⟩ ?_ ?_⟩
  ·rintro i σ H' hi ⟨sm,v1,v2,v3,v4,v5,v6,v7,v8,v9,va,vb,vc,vd,rfl⟩
   nofun;refine⟨a,ns,_,rfl,sm.seq hS,by lia,λp H1 hp0 same T1=>?_⟩;have hpn:H p=none:=sm.free hp0;nofun;refine⟨p,_,rfl,T1,λq l kind xs b H2 hkind tq tl hxl hK hb hb2 hlp hl0 S2=>?_⟩;have M2:Same H H2:=λc u e=>S2.keep c u (same c u (sm c u e)) (ay e hpn)
   refine dX tq ?_;clear tq S2 T1 same hp0 hl0 hlp;have KL2:KL kind H2 l xs:=⟨tl,hxl,hK⟩;obtain⟨kd,hkd,hA,hok⟩:=xy hkind hK ⋯;nofun;refine gL (.inl (Od tl)) λkp hkp=>?_
   obtain⟨H3,e9,s3,tkp⟩:=nwR hkp (.lst xs);rw[e9];nofun;refine⟨kd,xs,l,by rw[hkd];rfl,s3 _ _ tl,hA.same s3,hok,λo os H4 hon s4 to hP hR=>?_⟩;nofun;refine⟨kd,xs,l,b,by rw[hkd];rfl,.inl (s4 _ _ (s3 _ _ tl)),hA.same (s3.trans s4),hok,hb,hb2,λml n1 n2 n3 H5 hml2 s5 hMv hT=>?_⟩;obtain⟨t1,t2,t3,tml,e1,e2,e3⟩:=hMv;nofun;refine⟨ml,[t1,t2,t3],[((.inr "last" : Key),Of n1),(.inr "first",Of n2),(.inr "runs",Of n3)],rfl,tml,rfl,λj p kv f1 f2=>?_,λd hd=>?_⟩
   ·match j,f1,f2 with
    | 0,f1,f2=>cases f1;cases f2;exact e1
    | 1,f1,f2=>cases f1;cases f2;exact e2
    | 2,f1,f2=>cases f1;cases f2;exact e3
    | j+3,f1,f2=>simp at f1
   have hval:∀wy m,wayN wy n1 n2 n3 m->jH (fx [] [((.inr "last" : Key),Of n1),(.inr "first",Of n2),(.inr "runs",Of n3)]) (.inr wy)=some (.int m):=λwy m h=>h.val
   obtain⟨H6,e9,s6,td⟩:=nwS s5 hd (.dK (fx [] [((.inr "last" : Key),Of n1),(.inr "first",Of n2),(.inr "runs",Of n3)]));rw[e9];generalize fx [] [((.inr "last" : Key),Of n1),(.inr "first",Of n2),(.inr "runs",Of n3)]=kvs at td hval;have s26:=s3.trans (s4.trans s6);have KL6:=KL2.same s26;have hA6:=hA.same s26;have tkp6:=s6 _ _ (s4 _ _ tkp);have to6:=s6 _ _ to;have hxs:xs.length=kd.len:=hA.len;clear e1 e2 e3 tml hK KL2 hkp s5 hd hml2;nofun;refine⟨l,rfl,⟨_,Od KL6.1⟩,bf (a:=l) (vs:=xs) (λi ys σ H'=>Same H6 H'/\ys.length=i/\LstK H' kd xs ys/\∃v,σ=[v,some (Oh kind)]) (au ⋯) (λi ys σ H' h=>h.2.1) (λi ys σ H' h=>Od (h.1 _ _ KL6.1)) ⟨Oi _,rfl,?_,none,rfl⟩ ?_ ?_⟩
   ·cases kd with
    | nu ns=>exact .inr ⟨λ_ z=>(nomatch z),rfl⟩
    | te ns=>exact .inr ⟨λ_ z=>(nomatch z),rfl⟩
    | pa tb=>exact .inl ⟨tb,[],rfl,rfl,rfl,λi p z h=>by simp at h⟩
   ·rintro j ys σ H7 x hx ⟨s7,hyl,hL,v,rfl⟩
    have hjl:=br hx;nofun;rcases hL with⟨tb,qs,rfl,rfl,hPL⟩|⟨hne,e⟩
    ·refine cN (by rw[<-hkd];rfl) ?_
     nofun;obtain⟨ps,rfl,hPT⟩:=hA6;obtain⟨q,rfl,hq,_,hi2⟩:=aH hx;have hjt:j<tb.length:=by rw[<-hPT.1];exact hi2
     have et:=DR (l:=tb) (i:=j) hjt;refine gL (.inr (Oe (s7 _ _ (hPT.2 j q _ hq et)))) λu hu=>?_
     have hql:qs.length=j:=by rw[DT]at hyl;exact hyl
     refine Ol hjl ⟨s7.new hu,by simp[hql],.inl ⟨tb,qs++[u],rfl,by rw[D0];rfl,?_⟩,_,rfl⟩;have e5:=(hPL.same ((Oi _).new (o:=.lst [.int tb[j].1,.int tb[j].2]) hu)).snoc (p:=u) (z:=tb[j]) aj;rw[DT,hql]at e5;rw[D8,DT,hql];show PartsL _ _ (tb.take (j+1))
     rw[D7,et];exact e5
    ·have hne2:kind≠"part":=λz=>by
      rw[<-hkd]at z;cases kd with
      | nu ns=>exact absurd (show("number" : Str) = "part" from z) (by decide)
      | te ns=>exact absurd (show("text" : Str) = "part" from z) (by decide)
      | pa tb=>exact hne tb rfl
     refine bX (λz=>hne2 (Oh.inj z)) ?_;nofun;refine Ol hjl ⟨s7,by simp[hyl],.inr ⟨hne,?_⟩,_,rfl⟩;rw[D8,EV,hyl,D7,hx];rw[hyl]at e;rw[<-e];rfl
   rintro ys σ H7 ⟨s7,hyl,hL,v,rfl⟩ z hz;have s8:=s7.new (o:=.lst ys) hz;have tz:(upd H7 z (.lst ys)) z=some (.lst ys):=aj;have hL8:=hL.same ((Oi H7).new (o:=.lst ys) hz);generalize upd H7 z (.lst ys)=H8 at s8 tz hL8;have hHz:=hL8.hand (hA6.same s8) hyl tz;nofun;refine⟨aF (by simp),λw1 hw1=>?_⟩;obtain⟨Ha,e9,sa,s8a,tw1⟩:=nwD s8 hw1 (.tup [Oh "last",Ou l]);rw[e9];nofun;refine df (Od (sa _ _ KL6.1)) λtk htk=>?_
   obtain⟨Hb,e9,sb,sab,ttk⟩:=nwD sa htk (.tup xs);rw[e9];nofun;refine⟨aF (by simp),λw2 hw2=>?_⟩;obtain⟨Hc,e9,sc,sbc,tw2⟩:=nwD sb hw2 (.tup [Oh "first",Ou tk]);rw[e9];nofun;refine⟨aF (by simp),λw3 hw3=>?_⟩;obtain⟨Hd,e9,sd,scd,tw3⟩:=nwD sc hw3 (.tup [Oh "runs",Ou z]);rw[e9];nofun;refine⟨aF (by simp),λw4 hw4=>?_⟩;obtain⟨He,e9,se,sde,tw4⟩:=nwD sd hw4 (.tup [Oh "last",Ou z]);rw[e9];nofun;refine⟨aF (by simp),λwl hwl=>?_⟩;obtain⟨H9,e9,s9,se9,twl⟩:=nwD se hwl (.lst [Ou w1,Ou w2,Ou w3,Ou w4]);rw[e9];have s89:=s8a.trans (sab.trans (sbc.trans (scd.trans (sde.trans se9))));have hW:∀u∈[Ou w1,Ou w2,Ou w3,Ou w4],WyAt kd H9 u:=λu hu=>by
    have hHl:Hand H9 kd l xs:=.inl ⟨.inl (s9 _ _ KL6.1),hA6.same s9⟩;have hHt:Hand H9 kd tk xs:=.inl ⟨.inr ((sbc.trans (scd.trans (sde.trans se9))) _ _ ttk),hA6.same s9⟩;have hH9:=hHz.same s89;simp only[Eb,EC,or_false]at hu;rcases hu with rfl|rfl|rfl|rfl
    ·exact⟨w1,_,l,xs,rfl,(sab.trans (sbc.trans (scd.trans (sde.trans se9)))) _ _ tw1,.inl rfl,hHl⟩
    ·exact⟨w2,_,tk,xs,rfl,(scd.trans (sde.trans se9)) _ _ tw2,.inr (.inl rfl),hHt⟩
    ·exact⟨w3,_,z,ys,rfl,(sde.trans se9) _ _ tw3,.inr (.inr rfl),hH9⟩
    ·exact⟨w4,_,z,ys,rfl,se9 _ _ tw4,.inl rfl,hH9⟩
   have KL9:=KL6.same s9;have tkp9:=s9 _ _ tkp6;have to9:=s9 _ _ to6;have td9:=s9 _ _ td;have hA9:=hA6.same s9;have tz9:=s89 _ _ tz;have hL9:=hL8.same s89;have M9:=M2.trans (s26.trans s9);clear sa s8a sb sab sc sbc sd scd se sde se9 s89 tw1 tw2 tw3 tw4 ttk hw1 hw2 hw3 hw4 htk hwl hL hL8 tz KL6 tkp6 to6 td hA6 hHz hz s8 s7 s6 s4 s3;nofun;refine⟨wl,rfl,⟨_,Od twl⟩,cF (a:=wl) (xs:=[Ou w1,Ou w2,Ou w3,Ou w4]) (λj σ H'=>Same H9 H'/\∃x1 x2 x3 x4,σ=[some (Ou a),some (Of (0+(i:Int))),some (Oh kind),some (Ou l),some (Of b),some (Ou kp),some (Ou o),some (Ou d),some (Ou z),some (Ou wl),x1,x2,x3,x4]) ⟨Oi _,_,_,_,_,rfl⟩ (λj σ H' _ ⟨s,_⟩=>Od (s _ _ twl)) ?_ ?_⟩
   ·rintro j x σ HA hx ⟨sA,x1,x2,x3,x4,rfl⟩
    obtain⟨u,way,h,us,rfl,tu,hway,hH⟩:=(hW x (Ew hx)).same sA;refine bu tu ?_;dsimp only[E7];nofun;refine⟨way,kd,us,h,b,by rw[hkd];rfl,hway,hH,hok,hb,hb2,λt lo oo os2 ys2 m rss w by' HB sB tt too tlo hKs hr hO hM hln hoon hne=>?_⟩;have hrl:rss.length=xs.length:=(hr.good hok hb hb2).2.1.trans hxs.symm;have eos:os2=os:=hO.one ⟨by rw[hrl];exact hP,hR rss (hr.lt hok hb hb2)⟩;subst eos;have hmv:=wayN.of hb hb2 hok hr hT hM;have hol:os2.length=xs.length:=by have:=hP.length_eq;simpa using this
    have holt:∀q∈os2,q<xs.length:=λq hq=>by simpa using hP.mem_iff.mp hq
    have s9B:=sA.trans sB;have toB:=s9B _ _ to9;nofun;refine⟨o,rfl,⟨_,Od toB⟩,bf (a:=o) (vs:=NV os2) (λj ys σ H'=>H'=HB/\j<=os2.length/\ys=(os2.take j).map (λq=>xs.getD q .non)/\∃v,σ=[v,some (Ou l)]) (by rw[aC];exact au ⋯) (λj ys σ H' h=>by rw[h.2.2.1,DT,Ee];lia) (λj ys σ H' h=>by rw[h.1];exact Od toB) ⟨rfl,Ec _,rfl,none,rfl⟩ ?_ ?_⟩
    ·rintro j ys σ H' x hx ⟨rfl,_,rfl,v,rfl⟩
     have hjl:=br hx;obtain⟨q,rfl,hq,hqm,hj⟩:=aH hx;have hqx:=holt q hqm;nofun;refine bJ (Od (s9B _ _ KL9.1)) (v:=xs[q]) (bg (DR hqx)) ?_;refine Ol hjl ⟨rfl,hj,?_,_,rfl⟩;rw[D7,hq,D0];simp[DS,hqx]
    rintro ys3 σ H' ⟨rfl,_,rfl,v,rfl⟩ c hc;rw[DW (by rw[aC];exact DY _)];have hKc:=xF (hA9.same s9B) holt;obtain⟨HC,e9,sC,tc⟩:=nwR hc (.lst (os2.map λq=>xs.getD q .non));rw[e9];nofun;refine⟨_,rfl,_,rfl,d,Of m,rfl,by have g:=DGet.k (k:=(.inr way:Key)) (sC _ _ (s9B _ _ td9));rw[hval way m hmv]at g;exact g,?_⟩;nofun;refine⟨aF (by simp),λt2 ht2=>?_⟩;obtain⟨HD,e9,sD,sCD,tt2⟩:=nwD sC ht2 (.tup [Ou c,Ou o,Of m]);rw[e9];have hys2:ys2.length<=200:=by rw[hKs.len];have:=hKc.len;rw[DT]at this;lia
    have sm3:SmAt 3 HD (.ref t) (.ref t2):=.inr (.inr ⟨t,t2,_,_,rfl,rfl,sD _ _ tt,tt2,rfl,by simp,λq u v f1 f2=>by
     match q,f1,f2 with
     | 0,f1,f2=>cases f1;cases f2;exact z9 (sD _ _ tlo) (sCD _ _ tc) (hKs.same sD) (hKc.same sD) hys2
     | 1,f1,f2=>cases f1;cases f2;exact SmAt.ints 1 (sD _ _ too) (sD _ _ toB) ⋯
     | 2,f1,f2=>cases f1;cases f2;exact SmAt.int 2 _
     | q+3,f1,f2=>simp at f1⟩)
    nofun;refine⟨_,_,rfl,sm3,λHE sE=>?_⟩;have sBE:=sD.trans sE;have s9E:=s9B.trans sBE;have KLE:=KL9.same s9E;obtain⟨ds,hdl,hds⟩:=nr KLE.2.2;nofun;refine kB (DatE.lst KLE.1 hdl hds) (DatE.lst (s9E _ _ tkp9) hdl hds) (by decide) ?_;nofun;refine aL (Od (s9E _ _ tz9)) ?_;nofun;refine aL (Od KLE.1) ?_;rw[hyl];nofun;rw[if_neg (by simp)];have ttE:=sBE _ _ tt;have tloE:=sBE _ _ tlo;have tooE:=sBE _ _ too;have sAE:=sB.trans sBE;have hln9:H9 lo=none:=sA.free hln;have hoo9:H9 oo=none:=sA.free hoon;clear sB sC sD sCD sE sBE tt tlo too toB sm3 tc tt2 hc ht2 hKs hKc hr hO hM hmv hrl hln hoon;nofun;apply C9 (S:=λHF=>Same HE HF);case hA=>
     intro key;by_cases hpt:kind = "part"
     ·have hkp:∃tb,kd=.pa tb:=by
       cases kd with
       | nu ns=>exact absurd (show("number" : Str) = "part" from hkd.trans hpt) (by decide)
       | te ns=>exact absurd (show("text" : Str) = "part" from hkd.trans hpt) (by decide)
       | pa tb=>exact⟨tb,rfl⟩
      rcases hL9.same s9E with⟨tb,qs,e7,e8,hPL⟩|⟨hne2,_⟩
      rotate_left 1
      ·exact absurd hkp.choose_spec (hne2 _)
      have hAE:=hA9.same s9E;rw[e7]at hAE;obtain⟨ps,exs,hPT⟩:=hAE;have hql:qs.length=ys.length:=by rw[e8,DT]
      have htl:tb.take ys.length=tb:=by
       rw[hyl,exs,DT,hPT.1,G0]
      rw[htl]at hPL;have tzE:=s9E _ _ tz9;refine cN (by rw[hpt]) ?_;nofun;refine⟨z,rfl,⟨_,Od tzE⟩,bf (a:=z) (vs:=ys) (λj zs σ H'=>Same HE H'/\(∃us:List Addr,zs=us.map Ou/\us.length=j/\PartsT H' us (tb.take j))/\∃v,σ=[v]) (au ⋯) (λj zs σ H' h=>by obtain⟨_,⟨us,rfl,e,_⟩,_⟩:=h;rw[DT];exact e) (λj zs σ H' h=>Od (h.1 _ _ tzE)) ⟨Oi _,⟨[],rfl,rfl,rfl,λi p z h=>by simp at h⟩,none,rfl⟩ ?_ ?_⟩
      ·rintro j zs σ HF x hx ⟨sF,⟨us,rfl,hul,hPU⟩,v,rfl⟩
       have hjl:=br hx;rw[e8]at hx;obtain⟨q,rfl,hq,_,hj⟩:=aH hx;have hjt:j<tb.length:=by rw[<-hPL.1];exact hj
       have et:=DR (l:=tb) (i:=j) hjt;nofun;refine df (Od (sF _ _ (hPL.2 j q _ hq et))) λu hu=>?_
       refine Ol hjl ⟨sF.new hu,⟨us++[u],by rw[D0];rfl,by simp[hul],?_⟩,_,rfl⟩;rw[D7,et];exact(hPU.same ((Oi _).new hu)).snoc aj
      rintro zs σ HF ⟨sF,⟨us,rfl,hul,hPU⟩,v,rfl⟩ c hc;rw[htl]at hPU;have sG:=sF.new (o:=.lst (us.map Ou)) hc;have tc:(upd HF c (.lst (us.map Ou))) c=some (.lst (us.map Ou)):=aj;have hPG:=hPU.same ((Oi HF).new (o:=.lst (us.map Ou)) hc);generalize upd HF c (.lst (us.map Ou))=HG at sG tc hPG;nofun;have tlG:=sG _ _ KLE.1;rw[exs]at tlG;refine kB (nt tc hPG) (nt tlG (hPT.same sG)) (by decide) ?_;nofun;exact key HG sG
     ·refine bX (λz=>hpt (Oh.inj z)) ?_
      clear ttE;nofun;exact key HE (Oi _)
    case hB=>
     intro HF sF;have ttF:=sF _ _ ttE;have tloF:=sF _ _ tloE;have tooF:=sF _ _ tooE;nofun;refine⟨bq tloF,?_⟩;nofun;refine aZ tloF (au ⋯) ?_;have sG:=(s9E.trans sF).own (o:=.lst (ys2++[Oh "more"])) hln9;have tooG:(upd HF lo (.lst (ys2++[Oh "more"]))) oo=some (.lst (NV os2)):=by rw[aB (E5 hne)];exact tooF
     have ttG:(upd HF lo (.lst (ys2++[Oh "more"]))) t=some (.tup [Ou lo,Ou oo,Of m]):=by rw[aB (iC ttF tloF (by intro c;cases c))];exact ttF
     generalize upd HF lo (.lst (ys2++[Oh "more"]))=HG at sG tooG ttG;nofun;refine⟨bq tooG,oo,_,rfl,rfl,tooG,?_⟩;exact⟨sG.own hoo9,_,_,_,_,rfl⟩
   ·rintro σ HA ⟨sA,x1,x2,x3,x4,rfl⟩
    exact⟨M9.trans sA,_,_,_,_,_,_,_,_,_,_,_,_,_,rfl⟩
  ·rintro σ H' ⟨sm,v1,v2,v3,v4,v5,v6,v7,v8,v9,va,vb,vc,vd,rfl⟩
   nofun;exact k _
end
theorem DJ{α:Type}{P:List α->Prop}(h:∀x0:α,P [x0]):∀us:List α,us.length=1->P us
 | [x0],_=>h x0
theorem DK{α:Type}{P:List α->Prop}(h:∀x0 x1:α,P [x0,x1]):∀us:List α,us.length=2->P us
 | [x0,x1],_=>h x0 x1
theorem DL{α:Type}{P:List α->Prop}(h:∀x0 x1 x2:α,P [x0,x1,x2]):∀us:List α,us.length=3->P us
 | [x0,x1,x2],_=>h x0 x1 x2
theorem DM{α:Type}{P:List α->Prop}(h:∀x0 x1 x2 x3:α,P [x0,x1,x2,x3]):∀us:List α,us.length=4->P us
 | [x0,x1,x2,x3],_=>h x0 x1 x2 x3
theorem Ct:AB tab:=by
 unfold tab
 repeat refine And.intro (by first|exact λ_ _ _ _ _ _=>DJ (λ_=>rfl)|exact λ_ _ _ _ _ _=>DK (λ_ _=>rfl)|exact λ_ _ _ _ _ _=>DL (λ_ _ _=>rfl)|exact λ_ _ _ _ _ _=>DM (λ_ _ _ _=>rfl)) ?_
 exact trivial
theorem Ac {l:JX}{w:World}{K:DU}{mg:Str->Option Value}{fa f54:Addr}{fs:List Addr}{ds:List FuncData}(X:K.In h) (G:h.Ns mainGlobals mg) (hfa:mg "law" = some (.ref fa))
  (al:Al K tab fs ds)
  (a54:EK K mainGlobals "law" = some (some (.ref f54)))
  {oc54 kV54 dc54 pm54 cd54 ct54:Value}{od54 an54:Option Addr}{sl54:Array (Option Value)}
  (l54:K.lookup f54=some ⟨oc54,od54,.func (F8 "law" "law" (eE jQ) (cZ jQ) (bI jQ) .none kV54 dc54 pm54 an54 cd54 ct54),sl54⟩) (c54:ID K cd54 "law" = true) (k54:Gu K (.ref f54)=true)
  (oD:EK K mainGlobals "abs" = some none)
  (rp:EK K mainGlobals "all" = some none)
  (cu:EK K mainGlobals "bool" = some none)
  (nA:EK K mainGlobals "dict" = some none)
  (cE:EK K mainGlobals "enumerate" = some none)
  (fL:EK K mainGlobals "int" = some none)
  (ak:EK K mainGlobals "isinstance" = some none)
  (bA:EK K mainGlobals "len" = some none)
  (bZ:EK K mainGlobals "list" = some none)
  (lW:EK K mainGlobals "max" = some none)
  (lX:EK K mainGlobals "min" = some none)
  (rq:EK K mainGlobals "ord" = some none)
  (bW:EK K mainGlobals "range" = some none)
  (gG:EK K mainGlobals "sorted" = some none)
  (eS:EK K mainGlobals "str" = some none)
  (iL:EK K mainGlobals "sum" = some none)
  (aW:EK K mainGlobals "tuple" = some none)
  (oE:EK K mainGlobals "zip" = some none)
  {fW:Addr}{q0_AHEAD q1_AHEAD q2_AHEAD:Tok}{ep_AHEAD:Nat}(ag_AHEAD:EK K mainGlobals "AHEAD" = some (some (.ref fW))) (at_AHEAD:K.lookup fW=some ⟨.type "dict",none,.dict #[⟨FR w.params "last",.str "last" q0_AHEAD,.ref (fs.getD 32 fa)⟩,⟨FR w.params "first",.str "first" q1_AHEAD,.ref (fs.getD 33 fa)⟩,⟨FR w.params "runs",.str "runs" q2_AHEAD,.ref (fs.getD 34 fa)⟩] ep_AHEAD,#[]⟩)
  {jd:Addr}{q0_DONE q1_DONE q2_DONE:Tok}{ep_DONE:Nat}(ag_DONE:EK K mainGlobals "DONE" = some (some (.ref jd))) (at_DONE:K.lookup jd=some ⟨.type "dict",none,.dict #[⟨FR w.params "last",.str "last" q0_DONE,.ref (fs.getD 35 fa)⟩,⟨FR w.params "first",.str "first" q1_DONE,.ref (fs.getD 36 fa)⟩,⟨FR w.params "runs",.str "runs" q2_DONE,.ref (fs.getD 37 fa)⟩] ep_DONE,#[]⟩)
  {gf:Addr}{q0_WAYS q1_WAYS q2_WAYS:Tok}{ep_WAYS:Nat}{od_WAYS:Option Addr}{sl_WAYS:Array (Option Value)}(ag_WAYS:EK K mainGlobals "WAYS" = some (some (.ref gf))) (at_WAYS:K.lookup gf=some ⟨.type "tuple",od_WAYS,.seq #[.str "last" q0_WAYS,.str "first" q1_WAYS,.str "runs" q2_WAYS] ep_WAYS,sl_WAYS⟩)
  {eR:Tok}(ag_TEXT_BASE:EK K mainGlobals "TEXT_BASE" = some (some (.int 27 eR))) :
  ∃fd:FuncData,(∀(s:Shared) (v:Value),BindsTo s fd ⟨[v],[]⟩ [("_law_script",v)])/\∀base:Heap,K.In base->base.Ns mainGlobals mg->FnOk l.prog w K mg base CX0 7 fa fd ["_law_script"] (uh K):=by
 have e:=hfa.symm.trans (G6 X G a54);cases e;have F54:=uA (st:=jQ) l54 c54 k54;have T:Tx K mg ⟨λi=>fs.getD i fa,λi=>ds.getD i (F8 "law" "law" (eE jQ) (cZ jQ) (bI jQ) .none kV54 dc54 pm54 an54 cd54 ct54),_,_,w,_,_,_,_⟩:=⟨λi {x s p} e=>Al.ft X G al Ct _ _ i e,F54,EG X G oD,EG X G rp,EG X G cu,EG X G nA,EG X G cE,EG X G fL,EG X G ak,EG X G bA,EG X G bZ,EG X G lW,EG X G lX,EG X G rq,EG X G bW,EG X G gG,EG X G eS,EG X G iL,EG X G aW,EG X G oE,G6 X G ag_AHEAD,⟨[q0_AHEAD,q1_AHEAD,q2_AHEAD],ep_AHEAD,rfl,at_AHEAD⟩,G6 X G ag_DONE,⟨[q0_DONE,q1_DONE,q2_DONE],ep_DONE,rfl,at_DONE⟩,G6 X G ag_WAYS,λH=>.inr ⟨_,_,_,at_WAYS,rfl,rfl,(by show 3<=Ox;decide),(.cons ⟨_,rfl⟩ (.cons ⟨_,rfl⟩ (.cons ⟨_,rfl⟩ .nil)))⟩,G6 X G ag_TEXT_BASE⟩;exact⟨_,λs v=>.of_eq rfl,λbase _ _=>Aa T⟩
theorem DN{l:JX}{loose:List Str}{XP:(Str->Option Value)->Heap->Prop}{YP:World->Heap->Prop}{d:DefRec}{K:Params->DU}(hn:l.most=some 63)(hdf:d.params.defaults=[])
  (hY:∀(w:World) (h:Heap),YP w h->(K w.params).In h)
  (F:∀(w:World) (mg:Str->Option Value) (fa:Addr) (h:Heap),(K w.params).In h->h.Ns mainGlobals mg->mg d.name=some (.ref fa)->
   ∃fd:FuncData,(∀(s:Shared) (u:Value),BindsTo s fd ⟨[u],[]⟩ [("_law_script",u)])/\∀base:Heap,(K w.params).In base->base.Ns mainGlobals mg->FnOk l.prog w (K w.params) mg base CX0 7 fa fd ["_law_script"] (uh (K w.params))) :
  Mv q loose XP YP l.row.toRowW d [] (λf vs=>L4 f vs):=
 L2.vN (n:=63) (k:=7) (x:="_law_script") (CX:=λ_=>CX0) (sp:=λw=>uh (K w.params)) hn (by decide) hdf ⟨rfl,by decide,by decide,rfl⟩ hY F (λ_ _ a ns hl _ hS=>⟨a,ns,rfl,hS,hl,λ_=>rfl⟩) λ_ _ _ _ _ z=>z
end Fs
open PySem PySem.W PyProof.Rows
set_option maxRecDepth 100000 in
set_option maxHeartbeats 0 in
theorem PySem.Challenge.cw_figuresort_k47_ordered_by_each_way_holds : PySem.Challenge.rw_figuresort_k47_ordered_by_each_way.Holds := by
 w_on;refine holds_law Fs.AL λsaid=>?_
 refine holds_open (q:=Fs.vwF) (loose:=Fs.loF) (Xt:=Fs.xtF) (XP:=XL Fs.vwF []) (YP:=Hook.says Fs.jW) Fs.AK (Hook.of Fs.jW) (Hook.keeps Fs.jW) (λs e=>xl_of s (KI.mp e).1) XL.keeps (by rfl) (by rfl) (by rfl) (λs e=>recFacts_of (KI.mp e).2) (by rfl) said (by decide +kernel) ⟨rfl,rfl,rfl,rfl,rfl,by decide +kernel⟩ ?hw ?hc
 (case hw=>w_witness2)
 delta Fs.jW
 k_fill
 refine Fs.DN (l:=ES) rfl rfl (λw h Y=>PySem.W.kIn_of Y) ?F;case F=>
  intro w mg fa h KX G hmg;refine' Fs.Ac KX G hmg ?al ?a54 ?l54 ?c54 ?k54 ?oD ?rp ?cu ?nA ?cE ?fL ?ak ?bA ?bZ ?lW ?lX ?rq ?bW ?gG ?eS ?iL ?aW ?oE ?ag_AHEAD ?at_AHEAD ?ag_DONE ?at_DONE ?ag_WAYS ?at_WAYS ?ag_TEXT_BASE;case' al=>unfold Fs.tab;repeat' (first|exact L2.Al.nil|refine' L2.Al.cons ?_ ?_ ?_)
  iterate 2 all_goals (first|k_is|exact L2.uA (by k_is) (by k_is) (by k_is)|skip)
  all_goals kernel_rfl
