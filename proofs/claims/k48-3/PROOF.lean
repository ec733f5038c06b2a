import PyProof.Rows.All
import Wide.All
import OpenK.AllK
import Wide.FinOn
import Lean
import PyProof.EqAt
import PyProof.EqKinds
import PyProof.TupleCall
import PySem.Challenge.RW_figuresort_k48_keys_read_and_written
set_option compiler.extract_closed false
local macro_rules
 | `(tactic|lia)=>`(tactic|first | lia (config:={}) | omega)
local macro_rules
 | `(⋯)=>`(by lia)
open List renaming getElem?_eq_getElem→D9,length_map→Ea,getD_eq_getElem?_getD→Eb,take_of_length_le→Ee,map_append→Ef,getElem?_map→Eh,getElem?_eq_some_iff→Ei,range→Ej,take_add_one→Em,length_append→En,getElem?_append_left→Ep,replicate→Er,getElem_mem→Es,size_toArray→Et,mem_cons_of_mem→Eu,getElem?_append_right→Ey,mem_of_getElem?→Ez,mem_cons→EA,length_cons→EB,mem_map→EC,mem_singleton→EG,length_take→EI,mem_cons_self→EL,mem_append_right→EO,mem_range→ER,mem_append→ET,pairwise_iff_getElem→EW,toArray→EX,not_mem_nil→EZ,map_cons→E1,length_replicate→E3,set→E4,lookup_cons→E8,length_range→E9,length_nil→Fe,append_assoc→Fi,append_nil→Fl,replicate_succ→Fm,length_pos_iff→Fn,length_singleton→Fo,length_drop→Ft,sum_cons→Fv,drop_zero→Fw,length_eq_zero_iff→FA,mem_append_left→FB,map_map→FD,getElem?_range→FH,zip_cons_cons→FL,lookup→FP,flatten_replicate_singleton→FS,filter_append→FW,getElem?_of_mem→F0,sum_append→F1,pairwise_append→F3,mem_of_mem_take→F4,length_reverse→F9,nodup_cons→Gi,take_append_drop→Gj,length→Gq,range'→Gr,all_eq_true→Gu,mem_reverse→Gv,pairwise_singleton→GA,all_cons→GB,map_replicate→GD,flatten_cons→GI,contains_iff_mem→GO,mem_iff_getElem→GR,ext_getElem→GS,cons_ne_nil→GU,getElem_of_mem→GY,map_eq_nil_iff→GZ,mem_filter→G3,getElem?_take_of_lt→G6,pairwise_cons→G9,drop_drop→He,lt_irrefl→Hf,getElem?_replicate→Hg,getElem?_set→Hn,getElem_map→Hu,getElem?_eq_none→Hv,eq_nil_or_concat→Hw,nil_append→HY,filterMap_cons→Il,map_congr_left→Im,zip_nil_right→Iw,nodup_iff_pairwise_ne→IJ,map_take→IL,map_drop→IM,zip_nil_left→IV,count_append→IW,drop_eq_getElem_cons→IZ,map_nil→Jf,map_reverse→Ji,cons_append→Jl,eq_of_mem_replicate→Jo,filter_cons→Jp,getElem?_cons_succ→Jr,of_mem_zip→Jw,length_set→Jx,getElem?_set_self→JB,pairwise_lt_range→JG,drop_of_length_le→JH,not_lt→JM,getElem?_reverse→JP,concat_eq_append→JQ,drop_left→JT,take_left→JU,cons_lt_cons_iff→JV,length_filter_le→JW,getElem?_set_ne→JY,range'_append_1→J3,range_eq_range'→J6,take_succ_cons→Kc,mem_map_of_mem→Kh,mem_filterMap→Km,count_eq_zero→Ks,getElem_range→Kt,getElem?_drop→Kv,find?_toArray→Kz,take_sublist→KR,reverse_cons→KS,pairwise_map→KW,mapM_toArray→KY,nodup_range→Lh,countP_cons→Li,map→Lj,take_length→Ll,mem_toArray→Ln,foldl→Lw,find?_cons→LZ,drop→Mj,any_cons→Mm,lt_trans→Ms,map_set→M1,count→Nw,take→NW
open PySem.W renaming Frag→Ec,nsIn→EJ,mg_none_of→EV,mg_of→Fg,findIn→Fj,kia_one→Fx,emptyDict→FF,kia_tup→FJ,keepIn→FU,instObj→FZ,fnOf→Gf,kitOne→GK,hasDictIn→Hk,kitx_list→Hl,plainGet→Ht,codeIn→Iq,kitx_tuple→Iu,callWith_K→Iv,methodObj→IS,plainOver→IT,kitx_none→IU,kitx_int→Jd,takerIn→Ju,makesIn→Jv,OpenLaw→Jy,cellsFrom_some→JD,lookIn→JN,kitx_bool→KO,kitx_dict→KP,handedIn→K6,kitx_str→La,kitAny→Mc,WalkO→Mn,isFn→MV
open Nat renaming le_refl→Ed,zero_le→Eo,ne_of_lt→EK,lt_of_lt_of_le→EN,le_trans→E5,lt_of_le_of_lt→E6,lt_irrefl→FC,lt_trichotomy→FG,lt_or_ge→F5,gcd→F6,le_add_right→Ga,lt_succ_of_lt→Gm,succ_le_succ→Gw,sub_self→Gy,le_of_lt→GJ,le_succ→GV,lcm→GW,min_eq_left→G5,mul_div_cancel_left→Hh,ne_of_gt→Hz,le_of_eq→HX,pow_succ→Ia,lt_trans→Ic,mod_lt→Ig,toDigits→Ii,mul_le_mul_left→Io,add_sub_cancel→IC,eq_zero_or_pos→ID,le_of_dvd→II,add_assoc→IK,gcd_dvd_right→IX,lt_succ_self→Jc,pos_of_mul_pos_left→Jq,gcd_pos_of_pos_left→Js,log2_lt→JF,pow_pos→JI,mul_add→JJ,lt_or_gt_of_ne→Ku,eq_or_lt_of_le→Kw,gcd_zero_right→KC,mul_one→K5,gcd_dvd_left→Lf,succ_ne_self→Lg,mod_eq_of_lt→Lm,log2_le_self→Lr,div_pos_iff→Lz,div_le_self→LO,not_lt_zero→L1,mul_le_mul→Md,dvd_trans→Mp,succ_mul→MW,mul_comm→MX,gcd_comm→M0,add_zero→M3,zero_add→M4,one_mul→Nh,mod_mul→Nj
open PySem.Challenge renaming pw_figuresort_k48_keys_read_and_written→Eg,rw_figuresort_k48_keys_read_and_written→EF
open True renaming intro→Ek
open PySem.Heap renaming get?_push_of_some→El,lt_size→Ew,get?_push_size→EH,get?_push_ne→Gn,get?_update_other→GE,size_update→GT,size_push→Ip,get?_update_ne→Ke,SameBut→Kl
open Bool renaming false_ne_true→ED,false_eq_true→Fq,and_eq_true→Fu,eq_iff_iff→G4,and_eq_true_iff→J9,false_or→Ka,true_or→Kr,and_false→Ma,not_true→Mo,or_true→MZ
open Option.some renaming inj→EE,injEq→N0
open PySem.PassesOwn renaming never→EM
open PySem.Value renaming ref→ES,none→Fb,isStrOf→Fk,type→FY,str→GC,int→GP,bool→Hy,float→K1,bytes→M8
open PySem.Str renaming ofString→EU,length_append→Fp,append_assoc→FR,empty→Ge,join→GH,cps_append→Ij,length→J0,ext'→Od
open PySem.PyData renaming keyHash→EY,leavesShort→Fy,strOk→Gx,showable→Jz,leavesShortAll→JS,showableAll→Kx,hasDictAll→KU,canLayAll0→KZ,depthAll→LX,canLay0→Me,str→Ny
open Ne renaming symm→E2
open Array renaming length_toList→E7,getD_eq_getD_getElem?→Gg,getElem?_toList→GL,toList_append→G0,getD→Ie,perm_iff_toList_perm→IP,mem_toList_iff→JZ,toList_inj→Lc,toList→MH
open PySem.Obj renaming mapSeq→Fc
open PyProof.Rows renaming callWith_type1→Fd,callWith_builtin1→Lu,digit_range→M6,text_ofNat→M7,lt_int→NB,le_int→NL
open PySem.Txt renaming removeprefix→Ff,partition→FE,split→FV,join→GF,contains→Hb,mul→Jb,slice→JA,startswith→Mf
open Int renaming toNat_natCast→Fh,eq_ofNat_of_zero_le→FO,natCast_ediv→Gb,mul_lt_mul_of_pos_right→Gh,lt_of_mul_lt_mul_right→Gk,toNat_of_nonneg→G1,mul_left_comm→Ho,le_of_lt→HZ,natCast_mul→Ih,natAbs_natCast→IB,fdiv_eq_ediv_of_nonneg→IH,mul_assoc→IQ,mul_comm→Jm,natCast_emod→Jn,mul_pos→JL,emod_lt_of_pos→KB,emod_nonneg→L0,natCast_pos→L3,natAbs_mul→Mb,mul_nonneg→Mg,le_trans→MY,mul_one→M9,le_refl→Ni,not_lt→NA
open PySem.Builtin.Range renaming rangeSize→Fz,rangeFitsLong→GQ,small→GX
open False renaming elim→FI
open PySem renaming ofString_length→FK,strKind→FN,mem_of_lookup→F8,Within→Kk,call→Ly,Str→NM,Fin→NT
open PySem.Builtin.List renaming listTooLong→FM,listSubscript?→Iz,listAllItems→IY,listSameRef→Jh,listItems→Nc
open PySem.F renaming plain_max_loop→FQ,plainAttrs_str→Gd,plainAttrs_list→Gz,slot_str_split→GG,args_str_split_2→Ha,entry_str_split→Hi,slot_str_removeprefix→Ik,slot_str_startswith→IF,slot_str_partition→IR,slot_list_extend→Jj,type_list_extend→Jk,entry_max_loop→JK,slot_tuple_lt→JR,args_list_extend_2→J2,entry_list_extend→Kb,slot_str_lt→Kg,slot_list_extend→Kq,slot_int_rmul→Lx
open PySem.StrLaws renaming glued_eq_join→FX,removeprefix_eq→Hj,join_length_le→Hr,strSub_toList→JX,subAt_one→K0,subAt_eq→Lo,occ_head→Lp
open List.Pairwise renaming imp_of_mem→F2,nil→Hm
open List.cons renaming inj→F7
open Option renaming map_eq_some_iff→Gc,isSome_iff_exists→Gs,getD_none→Jg,getD_some→Le,map_some→Ls,toList→Mt,none→Nd
open PySem.Builtin.Str renaming glued→Gp,strSub→KD
open Or renaming inl→GM,inr→NR
open List.Perm renaming refl→GN,append_left→JO,trans→LV,append_right→Ng,cons→Ob
open PySem.AutoSeq1 renaming sub_tuple_tuple→G7,wpAny_loadPart'→Ib,list_extend_list_list_0→Lb
open PyProof renaming noPylong_of_log2→G8
open Prod.mk renaming inj→Hq
open PySem.SetTable renaming bits→Hs,runEnd→Oa,Probe→Oc
open PySem.Builtin.Tuple renaming tupleCompareSizes→Hx
open PySem.Calls renaming Constant_str→Ir,Name_function_global→IG,callWith_builtin→JE,spliced_cons→Ko,spliced_nil→KQ
open PySem.Heap.IsSliceOf renaming new→Iy
open PySem.W.KFB renaming if_not→IA,if_so→NZ
open PySem.Builtin.Builtins renaming bindParams→IE
open Sum renaming inl→I0,inr→Ja
open PySem.Around renaming under→Je,under_plainId→J7
open PySem.NumText renaming AllDigits→Jt
open PySem.IsRange renaming new→JC
open PySem.W.KIN renaming val_back→J8,call_text→Nl,signs_num→Nm
open PySem.SeqAt.EqAt renaming int_str→Ki,str_int→Kj,int_int→Kp,none_bool→Nq,bool_none→Nr,bool_bool→Nt,none_int→NC,none_str→ND,bool_int→NF,bool_str→NG,int_none→NH,int_bool→NI,str_none→NJ,str_bool→NK,str_str→NQ,same→N8
open PySem.Code renaming isFrame→Kn,isGuard→MU,frames→Na
open PySem.W.Fast renaming tw10156331382660048174→KE,tw11892475500146522536→KF,tw14364793385576792824→KG,te10156331382660048174→KH,te11892475500146522536→KI,te14364793385576792824→KJ,tw6613529449190102663→KL,te6613529449190102663→KM,te9446332074065402090→KN
open PySem.Data renaming fields→K2,cell→Mh,seq→N4
open PySem.Walks renaming range→K3,tuple→Nf,list→Nu
open PySem.AutoListH renaming list___mul___list_int_3→K4
open PySem.IsL renaming isList→Ld,update→N2
open Prod renaming fst→Lq,ext→N6,snd→N7
open PySem.SeqAt renaming EqAt→Lv,compareEq_reads→Mi,eqv_refl→Nz
open PyProof.Rows.SortSt renaming mk'→LY
open Char renaming toNat→L4
open PySem.Paired renaming length→Ml
open PySem.CmpOf renaming ints_gt→Mq
open PySem.SeqAt.RcNeAt renaming lists_lengths→Mr,lists→NS
open Int.ofNat renaming inj→Mu
open PySem.EqNone renaming eq_none_none→Mv,eq_none_bool→Mw,eq_bool_none→Mx,ne_none_none→MA,ne_none_bool→MB,ne_bool_none→MC,eq_none_int→MI,eq_none_str→MJ,eq_int_none→MK,eq_str_none→MM,ne_none_int→MO,ne_none_str→MP,ne_int_none→MQ,ne_str_none→MS
open PySem.EqMixed renaming eq_bool_str→My,eq_str_bool→Mz,ne_bool_str→MD,ne_str_bool→ME,eq_int_str→ML,eq_str_int→MN,ne_int_str→MR,ne_str_int→MT
open Classical renaming byContradiction→MF
open PySem.W.OpenLaw renaming wellSaid→MG
open PySem.MeetsSeq renaming list_pop_last→Nb
open List.Sublist renaming count_le→Nk
open PySem.W.KT renaming starts_app→Nn
open PySem.W.RowW renaming records→Np
open PySem.Draws renaming list→Nv
open PySem.Flow renaming next→NN
open PyProof.Rows.IsTup renaming new→NO
open PySem.W.Looks renaming here→NP
open Lean.Name renaming mkSimple→NU
open PySem.Within renaming cons→NX
open PySem.Heap.Ns1 renaming of_empty→NY
open PySem.DictEntry renaming refKey→N1
open Array.Perm renaming refl→N9
open PySem renaming wpAny_bind→On,sizeLine→Oo,wpAny_pure→Oq,sizeLine_eq→Os,starEach→Ot,compareOp→Ou,foldedSetIterable→Ov,attributeBase→Ow,wpAny_mono→Oy,wpAny_truthy_bool→Oz,strLen_append→OA,binaryOp→OB,wpAny_holding→OC,wpAny_loadPart'→OD,assignEach→OE,holding→OF,wpAny_Call_Name_kw→OH,wpAny_passesOwn→OI,typeIs_str→OJ,call_meets→OK,swapsWith→OL,sliceBounds→OM,wpAny_standAt→ON,swapsWithSole→OO,swappedStores→OP,behindInMarks→OQ,intItems→OR,inplaceOp→OS
open PyProof.Rows renaming IntsAre→Ox,seqObj→OG
set_option Elab.async false
set_option maxRecDepth 100000
set_option maxHeartbeats 0
namespace Fs
open PySem PySem.Spec PyProof.Rows
local macro_rules
 | `(tactic| o_head $_)=>`(tactic| assumption)
open PySem PySem.W PyProof.Rows in
theorem Kf(h:EF.row.Holds):EF.row.Holds:=by
 w_on;k_head
open PySem PySem.W PyProof.Rows in
def asF:List Addr:=[2,3,15,22,23,24,25,28,35,36,37,40,47,48,49,52,59,61,62,64,65,66,67,68,71,73,74,76,77,78,80,81,83,84,85,87,88,90,91,92,95,96,97,99,100,102,103,104,107,108,109,111,112,114,115,116,119,120,121,124,125,126,128,129,131,132,133,135,136,138,139,140,142,143,145,146,147,149,150,152,153,154,156,157,159,160,161,164,165,166,168,169,171,172,173,175,176,178,179,180,182,183,185,186,194,197,198,199,201,202,204,205,206,208,209,211,212,213,215,216,218,219,220,222,223,225,226,227,229,230,232,233,234,237,238,239,241,242,244,245,246,248,249,251,252,253,254,255,256,257,260,262,263,265,266,267,270,271,272,274,275,277,278,279,281,282,284,285,286,289,290,291,293,294,296,297,298,301,302,303,305,306,308,309,310,312,313,315,316,324,326,327,329,330,331,334,335,336,338,339,341,342,343,346,347,348,350,351,353,354,355,358,359,360,362,363,365,366,367,368,369,370,371,374,376,377,379,380,388,391,392,393,395,396,398,399,400,403,404,405,407,408,410,411,412,414,415,417,418,419,420,421,422,423,426,428,429,431,432,433,435,436,438,439,440,442,443,445,446,447,449,450,452,453,454,457,458,459,462,463,464,467,468,469,472,473,474,476,477,479,480,481,484,485,486,489,490,491,493,494,496,497,498,501,502,503,505,506,508,509,510,513,514,515,518,519,520,523,524,525,526,527,528,530,531,533,534,535,537,538,540,541,542,545,546,547,550,551,552,554,555,557,558,559,561,562,564,565,566,568,569,571,572,573,575,576,578,579,580,581,583,584,586,587,588,590,591,593,594,595,597,598,600,601,602,604,605,607,608,609,612,613,614,617,618,619,622,623,631,633,634,636,637,638,639,640,641,642,645,647,648,650,651,652,654,655,657,658,659,662,663,664,666,667,669,670,671,673,674,676,677,678,680,681,683,684,685,687,688,690,691,692,694,695,697,698,699,702,703,704,706,707,709,710,711,714,715,716,718,719,721,722,723,725,726,728,729,730,732,733,735,736,737,738,740,741,743,744,745,747,748,750,751,752,754,755,757,758,759,761,762,764,765,766,769,770,771,773,774,776,777,778,780,781,783,784,785,787,788,790,791,792,794,795,797,798,799,801,802,804,805,806,808,809,811,812,813,815,816,818,819,820,822,823,825,826,827,830,831,832,835,836,837,840,841,842,845,846,847,850,851,852,855,856]
open PySem PySem.W PyProof.Rows in
@[reducible] noncomputable def gP:Hook:=kmHook Kf.heap_1 asF (λ_=>by kernel_rfl) [536,181]
def Dy(i:Nat):Stmt:=Eg.main.body.getD i (.Pass ⟨0,0,0,0⟩)
def vwF:Program:={ Eg with main:={ Eg.main with body:=[1,2,3,4,6,7,8,9,10,11,12,14,15,16,17,19,20,21,22,23,24,25,27,28,29,31,32,33,34,35,36,38,39,41,42,44,45,47,48,49,50,51,52,53,54,56,57,59,60,61,62,63,64,65,66,67,68,69,70,72,73,74,75,76,77,78,79,80,81,82,83,84,85,86,87,88,89,91,92,93,94,95,96,97,98,99,100,101,102,103,104,105,106,107,108,109,110,111,112,113,114,115,116,118,119,120,121,122,123,124,125,126,127,128,129].map Dy } }
def loF:List NM:=["AHEAD","DONE","READERS","ASKS"]
def xtF(s:Shared):Bool:=PySem.W.xlAt vwF [] s && PySem.W.recOk (Np EF.row.toRowW) s
open PySem.W in
noncomputable def u5(P:Params):BT:=((((((((((BT.nil.ins 0 (boot_o_0 P)).ins 1 (boot_o_1 P)).ins 2 (boot_o_2 P)).ins 3 (boot_o_3 P)).ins 4 (boot_o_4 P)).ins 5 (boot_o_5 P)).ins 6 (boot_o_6 P)).ins 7 (boot_o_7 P)).ins 8 (boot_o_8 P)).ins 9 (boot_o_9 P)).ins 10 (boot_o_10 P)
open PySem.W in
theorem qU(P:Params):absHeap (u5 P) 11 (boot_heap P).life=boot_heap P:=by kernel_rfl
open PySem.W in
noncomputable def iH(p:Program)(w:World)(n0:Nat)(ann:Option Value):Nat->SharedT->Thread->Option SharedT
 | 0,_,_=>none
 | n+1,s,t=>match through t with
  | true=>some s
  | false=>match KL n0 ann t with
   | false=>none
   | true=>match KE (KF KG) p w s t with
    | some (s',t')=>iH p w n0 ann n s' t'
    | none=>none
open PySem.W in
theorem g9{p:Program}{w:World}{n0:Nat}{ann:Option Value}:∀{n:Nat}{s s':SharedT}{t:Thread},iH p w n0 ann n s t=some s'->topRun treeTable p w n0 ann n s.abs t=some s'.abs
 | 0,_,_,_,h=>by cases h
 | n+1,s,s',t,h=>by
  unfold iH at h;rw[<-KM,<-KH,<-KI,<-KJ]at h;unfold topRun;cases ht:through t with
  | true=>rw[ht]at h;cases h;rfl
  | false=>
   rw[ht]at h;cases hk:stepOk n0 ann t with
   | false=>rw[hk]at h;cases h
   | true=>
    rw[hk]at h;cases hs:stepT (denote treeTable) p w s t with
    | none=>rw[hs]at h;cases h
    | some r=>obtain⟨s2,t2⟩:=r;rw[hs]at h;rw[stepT_spec hs];exact g9 h
open PySem.W in
theorem AU{p q:Program}{loose:List NM}{Xt:Shared->Bool}{α:Type}{Yf:Shared->α}{Ya:World->α}{N:Nat}{g0:Bool}(row:String)
  (h:∀(b:Bool) (w:World),(fencedOpening treeTable p w N).map (λs₀=>(topFrom treeTable p (w.withFollow row b) N s₀).map (λs=>(openSeen q loose (importedModules p.main.body) Xt g0 s,Yf s)))=some (some (openGood q loose,Ya (w.withFollow row b)))):LeftO p q loose Xt Yf Ya N g0:=by
 refine LeftO.of_split row λw=>?_
 obtain⟨s,a,b⟩:=Gc.mp (h false w);obtain⟨s',a',b'⟩:=Gc.mp (h true w);rw[a]at a';cases a';rw[a,Ls,b,b']
open PySem.W in
def AA (b:Bool) (w:World):Prop:=(fencedOpening treeTable Eg w 11340).map (λs₀=>(topFrom treeTable Eg (w.withFollow "special-get-raises" b) 11340 s₀).map (λs=>(openSeen vwF loF (importedModules Eg.main.body) xtF true s,Hook.obs gP s)))=some (some (openGood vwF loF,Hook.val gP (w.withFollow "special-get-raises" b)))
open PySem.W in
noncomputable def u6 (b:Bool) (w:World) (os:OsState):Option SharedT:=iH Eg (w.withFollow "special-get-raises" b) 11 ((boot_heap w.params).nsMap mainGlobals "__annotations__") 11340 ⟨u5 w.params,11,(boot_heap w.params).life,Array.mk [],boot_drawn,boot_toks,os⟩ (topStub Eg)
open PySem.W in
def Pt0(b:Bool)(w:World):Prop:=(λos=>(u6 b w os).map (λsT=>((staticsOk (importedModules Eg.main.body) (boot_heap w.params) sT.abs.heap && namesBound Eg sT.abs.heap && gensDone sT.abs && laidKept (boot_heap w.params) sT.abs.heap),sT.abs.heap.bltView,(true && sT.abs.heap.accountedOkI (importedModules Eg.main.body) && sT.abs.heap.isNs mainGlobals && sT.abs.heap.isNs builtinsNs && tablesOk vwF sT.abs.heap && xtF sT.abs && (if true=true then sT.abs.gens.size == 0 else !leftWithCleanup sT.abs.gens)),plainSeenD vwF loF sT.abs,clsSeenW vwF loF sT.abs,pinSeenD vwF (drecsOf vwF) sT.abs)))=λ_=>some (true,bltViewBooted,true,plainGoodD vwF loF,clsGoodW vwF loF,pinGoodD (drecsOf vwF))
open PySem.W in
def Pt1(b:Bool)(w:World):Prop:=(λos=>(u6 b w os).map (λsT=>seen ((recsOf vwF).map (·.name)) (ownsOf vwF) [] { sT.abs with gens:=#[] }))=λ_=>some (expectedOf vwF)
open PySem.W in
def Pt2(b:Bool)(w:World):Prop:=(λos=>(u6 b w os).map (λsT=>sT.abs.heap.keysOk (looseW vwF loF) ((recsOf vwF).map (·.name)) ((litsOf vwF).map (·.1)) ((clssOf vwF (looseW vwF loF)).map (·.name))))=λ_=>some (true)
open PySem.W in
def Pt3(b:Bool)(w:World):Prop:=(λos=>(u6 b w os).map (λsT=>tabsOk vwF sT.abs))=λ_=>some (true)
open PySem.W in
def Pt4(b:Bool)(w:World):Prop:=(λos=>(u6 b w os).map (λsT=>plainSeenE vwF (looseW vwF loF) sT.abs))=λ_=>some (plainGoodE vwF (looseW vwF loF))
open PySem.W in
def Pt5(b:Bool)(w:World):Prop:=(λos=>(u6 b w os).map (λsT=>wideSeen vwF sT.abs))=λ_=>some (wideGood vwF)
open PySem.W in
def Pt6 (b:Bool) (w:World):Prop:=(λos=>(u6 b w os).map (λsT=>Hook.obs gP sT.abs))=λ_=>some (Hook.val gP (w.withFollow "special-get-raises" b))
open PySem.W in
theorem AV(P:Params):((boot_heap P).isNs mainGlobals,(boot_heap P).objs.size)=(true,11):=by kernel_rfl
open PySem.W in
theorem x6:opening Eg=plainProg Eg.main.scope.names:=by rfl
open PySem.W in
theorem x8(s:Shared):fenceModules? Eg s=some s:=by rfl
theorem AW:MG EF=true:=by rw[KN];kernel_rfl
open PySem.W in
theorem Dz:(chainsOk vwF && opensWell EF.row.prog && (frees EF.row.toRowW && EF.row.within.isEmpty))=true:=by decide +kernel
theorem x9:EF.row.prog.bare:=⟨rfl,rfl,rfl,rfl,rfl,by decide +kernel⟩
theorem p0f(w:World):Pt0 false w:=by unfold Pt0;kernel_rfl
theorem p0t(w:World):Pt0 true w:=by unfold Pt0;kernel_rfl
theorem p1f(w:World):Pt1 false w:=by unfold Pt1;kernel_rfl
theorem p1t(w:World):Pt1 true w:=by unfold Pt1;kernel_rfl
theorem p2f(w:World):Pt2 false w:=by unfold Pt2;kernel_rfl
theorem p2t(w:World):Pt2 true w:=by unfold Pt2;kernel_rfl
theorem p3f(w:World):Pt3 false w:=by unfold Pt3;kernel_rfl
theorem p3t(w:World):Pt3 true w:=by unfold Pt3;kernel_rfl
theorem p4f(w:World):Pt4 false w:=by unfold Pt4;kernel_rfl
theorem p4t(w:World):Pt4 true w:=by unfold Pt4;kernel_rfl
theorem p5f(w:World):Pt5 false w:=by unfold Pt5;kernel_rfl
theorem p5t(w:World):Pt5 true w:=by unfold Pt5;kernel_rfl
theorem p6f(w:World):Pt6 false w:=by unfold Pt6;kernel_rfl
theorem p6t(w:World):Pt6 true w:=by unfold Pt6;kernel_rfl
open PySem.W in
theorem uf{b:Bool}{w:World}(q0:Pt0 b w)(q1:Pt1 b w)(q2:Pt2 b w)(q3:Pt3 b w)(q4:Pt4 b w)(q5:Pt5 b w)(q6:Pt6 b w):AA b w:=by
 obtain⟨⟨hp,gs,d,k,os⟩,e,e'⟩:=Gc.mp (boot_open (p:=Eg) (N:=11340) x6 rfl x8 w);obtain⟨rfl,rfl,rfl,rfl⟩:hp=boot_heap w.params/\gs=Array.mk []/\d=boot_drawn/\k=boot_toks:=by simpa using e'
 obtain⟨sT,hs,v0⟩:=Gc.mp (congrFun q0 os);have v1:=congrFun q1 os;rw[hs]at v1;replace v1:=EE v1;dsimp only at v1;have v2:=congrFun q2 os;rw[hs]at v2;replace v2:=EE v2;dsimp only at v2;have v3:=congrFun q3 os;rw[hs]at v3;replace v3:=EE v3;dsimp only at v3;have v4:=congrFun q4 os;rw[hs]at v4;replace v4:=EE v4;dsimp only at v4;have v5:=congrFun q5 os;rw[hs]at v5;replace v5:=EE v5;dsimp only at v5;have v6:=congrFun q6 os;rw[hs]at v6;replace v6:=EE v6;dsimp only at v6;obtain⟨y0_0,z0_0⟩:=Hq v0;obtain⟨y0_1,z0_1⟩:=Hq z0_0;obtain⟨y0_2,z0_2⟩:=Hq z0_1;obtain⟨y0_3,z0_3⟩:=Hq z0_2;obtain⟨y0_4,z0_4⟩:=Hq z0_3;have r:=g9 hs;rw[show SharedT.abs ⟨u5 w.params,11,(boot_heap w.params).life,Array.mk [],boot_drawn,boot_toks,os⟩=⟨boot_heap w.params,Array.mk [],boot_drawn,boot_toks,os⟩by unfold SharedT.abs;rw[qU]]at r;obtain⟨z1,z2⟩:=Hq (AV w.params);unfold AA;rw[e];refine congrArg some ?_;have tf:topFrom treeTable Eg (w.withFollow "special-get-raises" b) 11340 ⟨boot_heap w.params,Array.mk [],boot_drawn,boot_toks,os⟩=some sT.abs:=by
  unfold topFrom;dsimp only;rw[z1,z2,r];show(match _ with|true=>some sT.abs|false=>none)=_
  rw[y0_0]
 show Option.map _ (topFrom treeTable Eg (w.withFollow "special-get-raises" b) 11340 ⟨boot_heap w.params,Array.mk [],boot_drawn,boot_toks,os⟩)=_
 rw[tf];refine congrArg some (congr (congrArg Prod.mk ?_) v6);unfold openSeen openGood;rw[v1,y0_1,v2,y0_2,v3,z0_4,v4,y0_3,v5,y0_4]
theorem AX(w:World):AA false w:=uf (p0f w) (p1f w) (p2f w) (p3f w) (p4f w) (p5f w) (p6f w)
theorem AY(w:World):AA true w:=uf (p0t w) (p1t w) (p2t w) (p3t w) (p4t w) (p5t w) (p6t w)
open PySem.W in
theorem AZ:LeftO Eg vwF loF xtF (Hook.obs gP) (Hook.val gP) 11340:=AU "special-get-raises" λb w=>by cases b;exact AX w;exact AY w
end Fs
set_option compiler.extract_closed false
set_option Elab.async false
set_option linter.all false
set_option maxRecDepth 100000
namespace L2
open PySem PySem.Spec PyProof.Rows
noncomputable abbrev Key:=Sum Int Str
noncomputable def yc:Key->Value->Bool
 | .inl k,v=>Value.isInt k v
 | .inr x,v=>Fk x v
noncomputable def DA(w:World):Key->Int
 | .inl k=>hashInt k
 | .inr x=>hashStr w x
theorem bB:∀{k:Key}{v:Value},yc k v=true->(∃i t,k=I0 i/\v=GP i t)\/(∃x t,k=Ja x/\v=GC x t)
 | .inl i,v,h=>by
  obtain⟨t,e⟩:=Value.isInt_shape (k:=i) (v:=v) h;exact .inl ⟨i,t,rfl,e⟩
 | .inr x,v,h=>by
  obtain⟨t,e⟩:=Value.isStrOf_shape (x:=x) (v:=v) h;exact .inr ⟨x,t,rfl,e⟩
theorem yd(a b:Int):decide ((I0 a:Key)=I0 b)=(a == b):=by
 by_cases e:a=b
 ·subst e;simp
 ·have h:¬(I0 a:Key)=I0 b:=λq=>e (Sum.inl.inj q)
  rw[decide_eq_false h];exact(beq_eq_false_iff_ne.mpr e).symm
theorem ye(a b:Str):decide ((Ja a:Key)=Ja b)=decide (a=b):=by
 by_cases e:a=b
 ·subst e;simp
 ·have h:¬(Ja a:Key)=Ja b:=λq=>e (Sum.inr.inj q)
  rw[decide_eq_false h,decide_eq_false e]
theorem yf(a:Int)(b:Str):decide ((I0 a:Key)=Ja b)=false:=decide_eq_false (λq=>nomatch q)
theorem yg(a:Str)(b:Int):decide ((Ja a:Key)=I0 b)=false:=decide_eq_false (λq=>nomatch q)
noncomputable def kQ(prog:Program)(w:World):PySem.KeyKind prog w Key where
 is:=yc
 hash:=DA w
 inj:=λv a b ha hb=>by
  rcases bB ha with⟨i,t,rfl,rfl⟩|⟨x,t,rfl,rfl⟩
  ·rcases bB hb with⟨j,u,rfl,e⟩|⟨y,u,rfl,e⟩
   ·injection e with e1 _;rw[e1]
   ·exact nomatch e
  ·rcases bB hb with⟨j,u,rfl,e⟩|⟨y,u,rfl,e⟩
   ·exact nomatch e
   ·injection e with e1 _;rw[e1]
 byValue:=λk v h=>by
  rcases bB h with⟨i,t,rfl,rfl⟩|⟨x,t,rfl,rfl⟩<;>rfl
 pyHash:=λhv h=>by
  rcases bB hv with⟨i,t,rfl,rfl⟩|⟨x,t,rfl,rfl⟩
  ·exact wpAny_pyHash_int h
  ·exact wpAny_pyHash_str h
 eqBool:=λhu hv h=>by
  rcases bB hu with⟨i,t,rfl,rfl⟩|⟨x,t,rfl,rfl⟩
  ·rcases bB hv with⟨j,u,rfl,rfl⟩|⟨y,u,rfl,rfl⟩
   ·rw[yd]at h;exact wpAny_eqBool_int h
   ·rw[yf]at h;exact Ki i t y u _ _ _ _ h
  ·rcases bB hv with⟨j,u,rfl,rfl⟩|⟨y,u,rfl,rfl⟩
   ·rw[yg]at h;exact Kj x t j u _ _ _ _ h
   ·rw[ye]at h;exact wpAny_eqBool_str h
 «strs»:=λk x t v h=>by
  rcases bB h with⟨i,u,rfl,e⟩|⟨y,u,rfl,e⟩
  ·exact nomatch e
  ·injection e with e1 _
   subst e1;cases v<;>rfl
inductive V where
 | non|bl (b:Bool)|int (i:Int)|str (x:Str)|byt (b:Array UInt8)|flt (b:UInt64)|ref (a:Addr)|ty (n:String)
 deriving DecidableEq
noncomputable def RelV:V->Value->Prop
 | .non,u=>u=Fb
 | .bl b,u=>u=Hy b
 | .int i,u=>∃t,u=GP i t
 | .str x,u=>∃t,u=GC x t
 | .byt b,u=>∃t,u=M8 b t
 | .flt b,u=>∃t,u=K1 b t
 | .ref a,u=>u=ES a
 | .ty n,u=>u=FY n
abbrev Vals:List V->List Value->Prop:=Paired RelV
theorem Vals.length{xs:List V}{us:List Value}(r:Vals xs us):xs.length=us.length:=Ml r
theorem Vals.get:∀{xs:List V}{us:List Value}{i:Nat}{x:V},Vals xs us->xs[i]? = some x->∃u,us[i]? = some u/\RelV x u
 | _,_,_,_,.nil,e=>by simp at e
 | _,_,0,_,.cons r _,e=>by simp at e;subst e;exact⟨_,rfl,r⟩
 | _,_,i+1,x,.cons _ t,e=>by
  obtain⟨u,h1,h2⟩:=Vals.get (i:=i) (x:=x) t (by simpa using e);exact⟨u,by simpa using h1,h2⟩
theorem Vals.set{x:V}{u:Value}(r:RelV x u):∀{xs:List V}{us:List Value}(i:Nat),Vals xs us->Vals (xs.set i x) (us.set i u)
 | _,_,_,.nil=>.nil
 | _,_,0,.cons _ t=>.cons r t
 | _,_,i+1,.cons q t=>.cons q (Vals.set r i t)
theorem Vals.append:∀{xs ys:List V}{us ws:List Value},Vals xs us->Vals ys ws->Vals (xs++ys) (us++ws)
 | _,_,_,_,.nil,s=>s
 | _,_,_,_,.cons r t,s=>.cons r (Vals.append t s)
theorem Vals.take:∀{xs:List V}{us:List Value}(n:Nat),Vals xs us->Vals (xs.take n) (us.take n)
 | _,_,0,_=>.nil
 | _,_,_+1,.nil=>.nil
 | _,_,n+1,.cons r t=>.cons r (Vals.take n t)
theorem Vals.drop:∀{xs:List V}{us:List Value}(n:Nat),Vals xs us->Vals (xs.drop n) (us.drop n)
 | _,_,0,r=>r
 | _,_,_+1,.nil=>.nil
 | _,_,n+1,.cons _ t=>Vals.drop n t
noncomputable def RelO:Option V->Option Value->Prop
 | some v,some u=>RelV v u
 | none,none=>True
 | _,_=>False
def KV{κ:Type}:List (κ×V)->List (κ×Value)->Prop:=Paired λ(p:κ×V) (q:κ×Value)=>p.1=q.1/\RelV p.2 q.2
noncomputable def kV:Key->V
 | .inl i=>.int i
 | .inr x=>.str x
inductive HO where
 /-- a list -/
 | lst (xs:List V)
 /-- a tuple (never changes) -/
 | tup (xs:List V)
 /-- a dict whose keys are ints and texts;one whose keys are tuples of ints and texts (the empty one is both) -/
 | dK (kvs:List (Key×V))|dT (kvs:List (List Key×V))
 /-- a set of ints: its members,its size -/
 | set (S:Int->Bool) (n:Nat)
 /-- an instance of the class at C,its dict at dx,its attributes -/
 | ins (C dx:Addr) (fs:List (Str×V))
 /-- the dict of the instance at x -/
 | own (x:Addr)
 /-- the dict of an exception -/
 | xd (fs:List (Str×V))
 /-- a bound method,f of x -/
 | met (f x:Addr)
 /-- a range object lo,lo+1,.. below hi -/
 | rng (lo hi:Int)
 /-- a thing that is known to the object (the script;a dict while a loop walks it): read,never written while it is so -/
 | frz (o:Obj) (u:HO)
 /-- a code object's table -/
 | tbl (ps:Array Value)
 /-- any other thing,by what is true of its one object (a def of one's own: SetO a S n:=HO.ext λh=>..) -/
 | ext (φ:Heap->Prop)
noncomputable abbrev Hp:=Addr->Option HO
noncomputable def upd(H:Hp)(a:Addr)(o:HO):Hp:=λb=>if b=a then some o else H b
theorem af{H:Hp}{a:Addr}{o:HO}:upd H a o a=some o:=by unfold upd;rw[if_pos rfl]
theorem ar{H:Hp}{a b:Addr}{o:HO}(h:b≠a):upd H a o b=H b:=by unfold upd;rw[if_neg h]
theorem u7{H:Hp}{a:Addr}{o u:HO}:upd (upd H a o) a u=upd H a u:=by
 funext b;unfold upd;split<;>rfl
theorem qV{H:Hp}{a b:Addr}{o u:HO}(h:H a=some o)(h':H b=some u)(d:o≠u):a≠b:=by
 intro e;subst e;rw[h]at h';exact d (EE h')
theorem aj{H:Hp}{a b:Addr}{o:HO}(h:H a=some o)(h':H b=none):a≠b:=by
 intro e;subst e;rw[h]at h';cases h'
section
variable(P:Program)(w:World)
noncomputable def ObjOk(H:Hp)(h:Heap)(a:Addr):HO->Prop
 | .lst xs=>xs.length<=Oo/\∃(its:List Value) (n:Nat),Vals xs its/\h.get? a=some { cls:=.type "list",data:=.seq its.toArray n }
 | .tup xs=>xs.length<=Oo/\∃its:List Value,Vals xs its/\IsTup h a its.toArray
 | .dK kvs=>kvs.length<=Oo/\(a == sysModules)=false/\∃vs,KV kvs vs/\h.DictOf (kQ P w) a vs
 | .dT kvs=>kvs.length<=Oo/\(a == sysModules)=false/\∃xs:List (List Key×Addr×Value),
   Paired (λ(p:List Key×V) (q:List Key×Addr×Value)=>p.1=q.1/\H q.2.1=some (.tup (p.1.map kV))/\RelV p.2 q.2.2) kvs xs/\
   ∃o es ep,h.get? a=some o/\o.ExactDict/\o.data=.dict es ep/\es.toList=xs.map (entryOfKey (tupleKind (kQ P w)))/\(xs.map (·.1)).Nodup
 | .set S n=>h.SetOf (intKind P w) a S n
 | .ins C dx fs=>H dx=some (.own a)/\fs.length<=1000/\dx≠a/\h.get? a=some (FZ C dx)/\
   ∃mA,h.Ns1 dx mA/\(∀f,RelO (fs.lookup f) (mA f))/\Kk mA (fs.map (·.1))
 | .own _=>∃o,h.get? a=some o
 | .xd fs=>∃mA,h.Ns1 a mA/\∀f,RelO (fs.lookup f) (mA f)
 | .rng lo hi=>∃t u v,h.get? a=some { cls:=.type "range",data:=.fields #[.int lo t,.int hi u,.int 1 v] }
 | .frz o u=>h.get? a=some o/\ObjOk H h a u
 | .tbl ps=>h.get? a=some { cls:=.none,data:=.fields ps }
 | .met f x=>h.get? a=some (IS (.ref f) (.ref x))
 | .ext φ=>φ h/\(∃o,h.get? a=some o)/\∀h1 h2:Heap,φ h1->(∀o,h1.get? a=some o->h2.get? a=some o)->φ h2
def HOk(H:Hp)(h:Heap):Prop:=∀a o,H a=some o->ObjOk P w H h a o
end
section
variable{P:Program}{w:World}{H H':Hp}{h h':Heap}{a:Addr}{o:HO}
theorem ObjOk.lt(x:ObjOk P w H h a o):a<h.objs.size:=by
 cases o with
 | lst xs=>obtain⟨_,_,_,_,e⟩:=x;exact Ew e
 | tup xs=>obtain⟨_,_,_,p⟩:=x;exact p.lt
 | dK kvs=>obtain⟨_,_,_,_,o,_,_,e,_⟩:=x;exact Ew e
 | dT kvs=>obtain⟨_,_,_,_,o,_,_,e,_⟩:=x;exact Ew e
 | set S n=>obtain⟨o,_,_,_,e,_⟩:=x;exact Ew e
 | ins C dx fs=>obtain⟨_,_,_,e,_⟩:=x;exact Ew e
 | own y=>obtain⟨_,e⟩:=x;exact Ew e
 | xd fs=>obtain⟨_,⟨_,_,_,e,_⟩,_⟩:=x;exact Ew e
 | rng lo hi=>obtain⟨_,_,_,e⟩:=x;exact Ew e
 | frz ob u=>obtain⟨e,_⟩:=x;exact Ew e
 | tbl ps=>exact Ew (show h.get? a=some _ from x)
 | met f y=>exact Ew (show h.get? a=some _ from x)
 | ext φ=>obtain⟨_,⟨_,e⟩,_⟩:=x;exact Ew e
theorem Paired.mapP{α β:Type}{F G:α->β->Prop}:∀{l₁:List α}{l₂:List β},Paired F l₁ l₂->(∀a b,F a b->G a b)->Paired G l₁ l₂
 | _,_,.nil,_=>.nil
 | _,_,.cons r t,f=>.cons (f _ _ r) (Paired.mapP t f)
theorem ObjOk.stay(x:ObjOk P w H h a o)(k:∀b u,(b=a\/H b=some (.own a))->h.get? b=some u->h'.get? b=some u)
  (ho:∀b,H b=some (.own a)->H' b=some (.own a)) (ht:∀b xs,H b=some (.tup xs)->H' b=some (.tup xs)):ObjOk P w H' h' a o:=by
 induction o with
 | lst xs=>obtain⟨z,its,n,r,e⟩:=x;exact⟨z,its,n,r,k _ _ (.inl rfl) e⟩
 | tup xs=>obtain⟨z,its,r,ob,e,c⟩:=x;exact⟨z,its,r,ob,k _ _ (.inl rfl) e,c⟩
 | dK kvs=>obtain⟨z,y,vs,r,ob,es,ep,e,c⟩:=x;exact⟨z,y,vs,r,ob,es,ep,k _ _ (.inl rfl) e,c⟩
 | dT kvs=>
  obtain⟨z,y,xs,r,ob,es,ep,e,c⟩:=x;exact⟨z,y,xs,Paired.mapP r λp q z=>⟨z.1,ht _ _ z.2.1,z.2.2⟩,ob,es,ep,k _ _ (.inl rfl) e,c⟩
 | set S n=>obtain⟨ob,es,ep,t,e,c⟩:=x;exact⟨ob,es,ep,t,k _ _ (.inl rfl) e,c⟩
 | ins C dx fs=>
  obtain⟨d,z,ne,e,mA,⟨od,es,ep,e2,c⟩,r⟩:=x;exact⟨ho _ d,z,ne,k _ _ (.inl rfl) e,mA,⟨od,es,ep,k _ _ (.inr d) e2,c⟩,r⟩
 | own y=>obtain⟨ob,e⟩:=x;exact⟨ob,k _ _ (.inl rfl) e⟩
 | xd fs=>obtain⟨mA,⟨od,es,ep,e,c⟩,r⟩:=x;exact⟨mA,⟨od,es,ep,k _ _ (.inl rfl) e,c⟩,r⟩
 | rng lo hi=>obtain⟨t,u,v,e⟩:=x;exact⟨t,u,v,k _ _ (.inl rfl) e⟩
 | frz ob u ih=>obtain⟨e,q⟩:=x;exact⟨k _ _ (.inl rfl) e,ih q⟩
 | tbl ps=>
  have e:h.get? a=some { cls:=.none,data:=.fields ps }:=x;show h'.get? a=some { cls:=.none,data:=.fields ps }
  exact k a _ (.inl rfl) e
 | met f y=>
  have e:h.get? a=some (IS (.ref f) (.ref y)):=x;show h'.get? a=some (IS (.ref f) (.ref y))
  exact k a _ (.inl rfl) e
 | ext φ=>obtain⟨p,⟨o,e⟩,st⟩:=x;exact⟨st _ _ p λo q=>k _ _ (.inl rfl) q,⟨o,k _ _ (.inl rfl) e⟩,st⟩
theorem HOk.lt(x:HOk P w H h)(e:H a=some o):a<h.objs.size:=(x a o e).lt
theorem HOk.fresh(x:HOk P w H h)(e:h.objs.size<=a):H a=none:=by
 cases q:H a with
 | none=>rfl
 | some u=>exact absurd (EN (x.lt q) e) (FC _)
theorem HOk.kept(x:HOk P w H h)(k:∀b u,h.get? b=some u->h'.get? b=some u):HOk P w H h':=λa o e=>
 (x a o e).stay (λb u _ q=>k b u q) (λ_ q=>q) λ_ _ q=>q
theorem HOk.laid(x:HOk P w H h)(k:∀b u,h.get? b=some u->h'.get? b=some u)(hp:h.objs.size<=a)(new:ObjOk P w (upd H a o) h' a o):HOk P w (upd H a o) h':=λb u e=>by
 have hn:=x.fresh hp;by_cases hb:b=a
 ·subst hb;rw[af]at e;cases e;exact new
 ·rw[ar hb]at e
  exact(x b u e).stay (λc v _ q=>k c v q) (λc q=>by rw[ar (aj q hn)];exact q) λc xs q=>by rw[ar (aj q hn)];exact q
end
def Rd(H:Hp)(a:Addr)(u:HO):Prop:=H a=some u\/∃o,H a=some (.frz o u)
theorem Rd.ok{P:Program}{w:World}{H:Hp}{h:Heap}{a:Addr}{u:HO}(r:Rd H a u)(x:HOk P w H h):ObjOk P w H h a u:=by
 rcases r with r|⟨o,r⟩
 ·exact x a u r
 ·obtain⟨_,q⟩:=x a _ r
  exact q
noncomputable def Mut:Option HO->Prop
 | some (.lst _)=>True
 | some (.dK _)=>True
 | some (.dT _)=>True
 | some (.set _ _)=>True
 | some (.ins _ _ _)=>True
 | some (.ext _)=>True
 | _=>False
section
variable{P:Program}{w:World}{H:Hp}{h h':Heap}{x e:Addr}{o':HO}
theorem HOk.write(ok:HOk P w H h)(mu:Mut (H x))(he:e=x\/H e=some (.own x))(k:∀b u,b≠e->h.get? b=some u->h'.get? b=some u)(heo:∃u,h'.get? e=some u)
  (new:ObjOk P w (upd H x o') h' x o'):HOk P w (upd H x o') h':=λb u q=>by
 have nown:∀c y,H c=some (.own y)->c≠x:=λc y r z=>by subst z;rw[r]at mu;exact mu
 have ntup:∀c xs,H c=some (.tup xs)->c≠x:=λc xs r z=>by subst z;rw[r]at mu;exact mu
 by_cases hb:b=x
 ·subst hb;rw[af]at q;cases q;exact new
 ·rw[ar hb]at q
  by_cases hbe:b=e
  ·have q':H b=some (.own x):=by
    rcases he with z|z
    ·exact absurd (hbe.trans z) hb
    ·rw[hbe];exact z
   rw[q]at q';cases q';obtain⟨v,hv⟩:=heo;exact⟨v,by rw[hbe];exact hv⟩
  ·refine(ok b u q).stay (λc v hc r=>k c v ?_ r) (λc r=>by rw[ar (nown c b r)];exact r) λc xs r=>by rw[ar (ntup c xs r)];exact r
   rcases hc with rfl|hc
   ·exact hbe
   ·rintro rfl
    rcases he with z|z
    ·exact nown c b hc z
    ·rw[hc]at z;cases z;exact hb rfl
end
structure Un (fs ex:List Addr) (H H':Hp) (h h':Heap):Prop where
 keep:∀b o,h.get? b=some o->H b=none->b∉fs->b∉ex->h'.get? b=some o
 slot:∀b o,h.get? b=some o->H b=none->b∈fs->b∉ex->∃sl,h'.get? b=some { o with slots:=sl }
 free:∀b o,h.get? b=some o->H b=none->b∉ex->H' b=none
 there:∀b o,h.get? b=some o->b∉ex->∃o',h'.get? b=some o'
 tups:∀b xs,H b=some (.tup xs)->H' b=some (.tup xs)
 frzs:∀b o u,H b=some (.frz o u)->H' b=some (.frz o u)
 tbls:∀b ps,H b=some (.tbl ps)->∃more,H' b=some (.tbl (ps++more))
section
variable{fs fs' ex ex':List Addr}{H H1 H2:Hp}{h h1 h2 h':Heap}{a x e:Addr}{o:HO}
theorem Un.any(u:Un fs ex H H1 h h1){b:Addr}{ob:Obj}(q:h.get? b=some ob)(n:H b=none)(hx:b∉ex):∃sl,h1.get? b=some { ob with slots:=sl }:=by
 by_cases hb:b∈fs
 ·exact u.slot b ob q n hb hx
 ·exact⟨ob.slots,u.keep b ob q n hb hx⟩
theorem Un.kept(k:∀b u,h.get? b=some u->h'.get? b=some u):Un fs ex H H h h':=
 ⟨λb ob q _ _ _=>k b ob q,λb ob q _ _ _=>⟨ob.slots,k b ob q⟩,λ_ _ _ n _=>n,λb ob q _=>⟨ob,k b ob q⟩,λ_ _ q=>q,λ_ _ _ q=>q,λ_ ps q=>⟨#[],by rw[q];simp⟩⟩
theorem Un.refl:Un fs ex H H h h:=Un.kept λ_ _ q=>q
theorem Un.laid(k:∀b u,h.get? b=some u->h'.get? b=some u)(hp:h.objs.size<=a)(hn:H a=none):Un fs ex H (upd H a o) h h' where
 keep:=λb u q _ _ _=>k b u q
 slot:=λb u q _ _ _=>⟨u.slots,k b u q⟩
 free:=λb u q n _=>by rw[ar (EK (EN (Ew q) hp))];exact n
 there:=λb u q _=>⟨u,k b u q⟩
 tups:=λb xs q=>by rw[ar (aj q hn)];exact q
 frzs:=λb u xs q=>by rw[ar (aj q hn)];exact q
 tbls:=λb ps q=>⟨#[],by rw[ar (aj q hn),q];simp⟩
theorem Un.write(mu:Mut (H x))(he:e=x\/H e=some (.own x))(k:∀b u,b≠e->h.get? b=some u->h'.get? b=some u)(heo:∃u,h'.get? e=some u):Un fs ex H (upd H x o) h h':=by
 have hx:∀b,H b=none->b≠x:=λb n z=>by subst z;rw[n]at mu;exact mu
 have hb:∀b,H b=none->b≠e:=λb n z=>by
  subst z;rcases he with r|r
  ·exact hx b n r
  ·rw[n]at r;cases r
 have hm:∀b u,H b=some u->¬Mut (some u)->b≠x:=λb u q nm z=>by subst z;rw[q]at mu;exact nm mu
 refine⟨λb u q n _ _=>k b u (hb b n) q,λb u q n _ _=>⟨u.slots,k b u (hb b n) q⟩,λb u q n _=>by rw[ar (hx b n)];exact n,λb u q _=>?_,
  λb xs q=>by rw[ar (hm b _ q λz=>z)];exact q,λb u xs q=>by rw[ar (hm b _ q λz=>z)];exact q,λb ps q=>⟨#[],by rw[ar (hm b _ q λz=>z),q];simp⟩⟩
 by_cases hbe:b=e
 ·subst hbe;exact heo
 ·exact⟨u,k b u hbe q⟩
end
noncomputable def trk(h:Heap)(H:Hp):List Addr:=(Ej h.objs.size).filter λa=>(H a).isSome
noncomputable def qW(h:Heap)(H:Hp):Heap:=PySem.W.hideAll h (trk h H)
theorem om(h:Heap)(H:Hp):(qW h H).objs.size=h.objs.size:=PySem.W.hideAll_size _ _
theorem qX{h:Heap}{H:Hp}{b:Addr}{o:Obj}(e:h.get? b=some o)(n:H b=none):(qW h H).get? b=some o:=
 PySem.W.hideAll_get _ e λhm=>by
  have q:(H b).isSome=true:=(G3.mp hm).2;rw[n]at q;simp at q
theorem u9{h:Heap}{H:Hp}{b:Addr}{o:Obj}(e:(qW h H).get? b=some o):h.get? b=some o/\H b=none:=by
 have e':h.get? b=some o:=PySem.W.of_hideAll (trk h H) e;refine⟨e',?_⟩;cases q:H b with
 | none=>rfl
 | some x=>
  have hm:b∈trk h H:=G3.mpr ⟨ER.mpr (Ew e'),by simp[q]⟩;have z:(qW h H).get? b=none:=PySem.W.hideAll_none (trk h H) hm;rw[z]at e;cases e
noncomputable def vc(g h:Heap)(L:Addr):List (Addr×Obj):=(Ej h.objs.size).filterMap λa=>if a=L\/(g.get? a).isSome=true then none else(h.get? a).map λo=>(a,o)
noncomputable def rest(g h:Heap)(L d:Addr):List (Addr×Obj):=(vc g h L).filter λp=>decide (p.1≠d)
structure Mod (K:Ec) (mg:Str->Option Value) (base:Heap):Prop where
 kin:K.In base
 glob:base.Ns mainGlobals mg
 blt:∃mb,base.Ns builtinsNs mb/\∀x:Str,x≠"__name__"->mb x=bootBuiltins x
 nolimit:base.NoLimit
/-- the context: a def's body (or a comprehension's block) running. base: fixed through the whole law;s₀,H₀: the entry;outer: the frames whose slots others may change (a def's callers);stack: all frames that run;
   ex: iterators that were made ahead of the entry and are walked here (a comprehension's);fn: the names whose cells were made at the entry (a def: all;a comprehension's block: its own);calm: not within an except suite;pn: pins that every state bears;xe: what is wanted of an exception that leaves the code -/
structure Cx where
 prog:Program
 w:World
 K:Ec
 mg:Str->Option Value
 base:Heap
 A:Around
 N:List Str
 s₀:Shared
 H₀:Hp
 env:Env
 outer:List Env
 stack:List Env
 ex:List Addr
 fn:Str->Bool
 calm:Bool
 pn:List (Addr×Obj)
 xe:Value->Shared->Prop
noncomputable def frs(l:List Env):List Addr:=l.filterMap (·.frame)
noncomputable abbrev Cx.fs(X:Cx):List Addr:=frs X.outer
def Vis(sc:Scope)(x:Str):Prop:=sc.names.lookup x=some .local\/sc.names.lookup x=some .cell\/sc.names.lookup x=some .free
def Loc(sc:Scope)(x:Str):Prop:=sc.names.lookup x=some .local\/sc.names.lookup x=some .cell
def DB(env:Env)(h:Heap)(m:Str->Option Value)(x:Str)(u:Value):Prop:=
 (env.kindOf x=some .local/\m x=some u)\/((env.kindOf x=some .cell\/env.kindOf x=some .free)/\∃c,env.cells.lookup x=some c/\h.IsCell c (some u))
structure Cx.Ok (X:Cx):Prop where
 mod:Mod X.K X.mg X.base
 kind:X.env.scope.kind=.function
 glob:X.env.globals=mainGlobals
 blt:X.env.builtins=builtinsNs
 above:X.s₀.heap.objs.size<=X.env.locals
 inj:∀x y c,X.env.cells.lookup x=some c->X.env.cells.lookup y=some c->x=y
 has:∀x,(X.env.kindOf x=some .cell\/X.env.kindOf x=some .free)->∃c,X.env.cells.lookup x=some c
 cab:∀x c,X.fn x=true->X.env.cells.lookup x=some c->X.s₀.heap.objs.size<=c
 hd:X.calm=true->X.A.handled=none
 frames:X.A.frames=some X.stack
 stk:X.stack=X.outer\/(X.stack=X.env::X.outer/\X.env.frame=some X.env.locals)
 exf:∀b∈X.ex,b≠X.env.locals/\∀x c,X.env.cells.lookup x=some c->c≠b
 bs:∀b o,X.base.get? b=some o->X.s₀.heap.get? b=some o/\X.H₀ b=none
 bsz:X.base.objs.size<=X.s₀.heap.objs.size
 noex:∀b o,X.base.get? b=some o->b∉X.ex
 exfs:∀b∈X.ex,b∉X.fs
 funs:X.s₀.heap.FunFrames X.base X.outer
 frf:∀b∈X.fs,X.H₀ b=none
structure Inv (X:Cx) (pins:List (Addr×Obj)) (σ:List (Option V)) (H:Hp) (s:Shared):Prop where
 ok:X.Ok
 os:s.os=X.s₀.os
 bare:AllBare s.gens
 base:Un X.fs X.ex X.H₀ H X.s₀.heap s.heap
 loc:∃m,s.heap.Ns X.env.locals m/\∀(i:Nat) (x:Str) (v:V),X.N[i]? = some x->σ[i]? = some (some v)->Vis X.env.scope x->∃u,RelV v u/\DB X.env s.heap m x u
 cell:∀x c,X.env.cells.lookup x=some c->∃v,s.heap.IsCell c v
 free:H X.env.locals=none
 freeC:∀x c,X.env.cells.lookup x=some c->H c=none
 pin:∀p∈X.pn++pins,s.heap.get? p.1=some p.2/\H p.1=none/\p.1≠X.env.locals/\p.1∉X.fs/\∀v,p.2.data≠.cell v
 hok:HOk X.prog X.w H s.heap
 len:σ.length=X.N.length
section
variable{X:Cx}{pins:List (Addr×Obj)}{σ:List (Option V)}{H H':Hp}{s:Shared}{h':Heap}
theorem Cx.Ok.nofr(ok:X.Ok){b:Addr}{o:Obj}(e:X.base.get? b=some o):b∉X.fs:=λhb=>by
 have:=(ok.funs.mem hb).1;rw[e]at this;cases this
theorem Inv.bs(I:Inv X pins σ H s):∀b o,X.base.get? b=some o->s.heap.get? b=some o/\H b=none:=λb o e=>
 ⟨I.base.keep b o (I.ok.bs b o e).1 (I.ok.bs b o e).2 (I.ok.nofr e) (I.ok.noex b o e),I.base.free b o (I.ok.bs b o e).1 (I.ok.bs b o e).2 (I.ok.noex b o e)⟩
theorem Inv.bk(I:Inv X pins σ H s):∀b o,X.base.get? b=some o->s.heap.get? b=some o:=λb o e=>(I.bs b o e).1
theorem Inv.mod(I:Inv X pins σ H s):Mod X.K X.mg X.base:=I.ok.mod
theorem Inv.kIn(I:Inv X pins σ H s):X.K.In s.heap:=I.ok.mod.kin.keeps I.bk
theorem Inv.lt(I:Inv X pins σ H s):X.env.locals<s.heap.objs.size:=let⟨_,hn,_⟩:=I.loc;hn.lt
theorem Inv.sz(I:Inv X pins σ H s):X.s₀.heap.objs.size<=s.heap.objs.size:=E5 I.ok.above (GJ I.lt)
theorem Inv.nofs(I:Inv X pins σ H s){a:Addr}(h:s.heap.objs.size<=a):a∉X.fs:=λhb=>by
 obtain⟨_,o,ho,_⟩:=I.ok.funs.mem hb;exact absurd (EN (Ew ho) (E5 I.sz h)) (FC _)
theorem Inv.cne(I:Inv X pins σ H s):∀x c,X.env.cells.lookup x=some c->c≠X.env.locals:=λx c e z=>by
 obtain⟨v,o,ho,hd⟩:=I.cell x c e;obtain⟨m,⟨o',es,ep,ho',hd',_⟩,_⟩:=I.loc;rw[z,ho']at ho;cases ho;rw[hd']at hd;cases hd
theorem Inv.funs(I:Inv X pins σ H s):s.heap.FunFrames X.base X.outer:=by
 have all:∀(l:List Env),(∀b∈frs l,b∈X.fs)->X.s₀.heap.FunFrames X.base l->s.heap.FunFrames X.base l:=by
  intro l
  induction l with
  | nil=>intro _ _;trivial
  | cons env r ih=>
   intro hs hl;obtain⟨hk,⟨L,o,hf,hn,ho,hd⟩,hr⟩:=hl;have hL:L∈X.fs:=hs L (by unfold frs;rw[Il,hf];exact EL);obtain⟨sl,e⟩:=I.base.slot L o ho (I.ok.frf L hL) hL λz=>I.ok.exfs L z hL
   exact⟨hk,⟨L,_,hf,hn,e,hd⟩,ih (λb hb=>hs b (by unfold frs;rw[Il,hf];exact Eu _ hb)) hr⟩
 exact all X.outer (λ_ hb=>hb) I.ok.funs
theorem Inv.stack(I:Inv X pins σ H s):s.heap.FunFrames X.base X.stack:=by
 rcases I.ok.stk with e|⟨e,hf⟩
 ·rw[e];exact I.funs
 ·rw[e]
  obtain⟨m,hn,_⟩:=I.loc;refine .cons (by rw[I.ok.kind];decide) hf hn ?_ I.funs;exact Heap.get?_none_of_le (E5 I.ok.bsz I.ok.above)
theorem Inv.stkSub(I:Inv X pins σ H s):∀b∈frs X.stack,b∈X.env.locals::X.fs:=λb hb=>by
 rcases I.ok.stk with e|⟨e,hf⟩
 ·rw[e]at hb;exact Eu _ hb
 ·rw[e]at hb
  unfold frs at hb;rw[Il,hf]at hb;exact hb
theorem Inv.stkFree(I:Inv X pins σ H s):∀b∈frs X.stack,H b=none:=λb hb=>by
 rcases EA.mp (I.stkSub b hb)with e|hb
 ·rw[e];exact I.free
 ·obtain⟨_,o,ho,_⟩:=I.ok.funs.mem hb
  exact I.base.free b o ho (I.ok.frf b hb) λz=>I.ok.exfs b z hb
theorem Inv.step{g':Array GenState}{t':Nat}{d':Drawn}{ch:List Addr}(I:Inv X pins σ H s)
  (hch:∀b∈ch,(b∈X.ex\/X.s₀.heap.objs.size<=b)/\b≠X.env.locals/\(∀x c,X.env.cells.lookup x=some c->c≠b)/\∀p∈X.pn++pins,p.1≠b)
  (keep:∀b o,b≠X.env.locals->b∉X.fs->b∉ch->s.heap.get? b=some o->H b=none->h'.get? b=some o)
  (slot:∀b o,b≠X.env.locals->b∈X.fs->b∉ch->s.heap.get? b=some o->H b=none->∃sl,h'.get? b=some { o with slots:=sl }) (free:∀b o,b∉ch->s.heap.get? b=some o->H b=none->H' b=none)
  (there:∀b o,b∉ch->s.heap.get? b=some o->∃o',h'.get? b=some o')
  (tups:∀b xs,H b=some (.tup xs)->H' b=some (.tup xs)) (frzs:∀b o u,H b=some (.frz o u)->H' b=some (.frz o u)) (tbls:∀b ps,H b=some (.tbl ps)->∃more,H' b=some (.tbl (ps++more)))
  (ns:∀m,s.heap.Ns X.env.locals m->h'.Ns X.env.locals m) (hok:HOk X.prog X.w H' h') (hg:AllBare g') :
  Inv X pins σ H' { s with heap:=h',gens:=g',drawn:=d',toks:=t' }:=by
 have neL:∀b o,X.s₀.heap.get? b=some o->b≠X.env.locals:=λb o e=>EK (EN (Ew e) I.ok.above)
 have neC:∀b o,X.s₀.heap.get? b=some o->b∉X.ex->b∉ch:=λb o e hx hb=>by
  rcases(hch b hb).1 with z|z
  ·exact hx z
  ·exact absurd (EN (Ew e) z) (FC _)
 have cellK:∀x c,X.env.cells.lookup x=some c->∀v,s.heap.IsCell c v->h'.IsCell c v:=λx c e v ⟨o,ho,hd⟩=>by
  have nch:c∉ch:=λz=>(hch c z).2.2.1 x c e rfl
  by_cases hc:c∈X.fs
  ·obtain⟨sl,q⟩:=slot c o (I.cne x c e) hc nch ho (I.freeC x c e)
   exact⟨_,q,hd⟩
  ·exact⟨o,keep c o (I.cne x c e) hc nch ho (I.freeC x c e),hd⟩
 refine⟨I.ok,I.os,hg,⟨λb o e n hb hx=>?_,λb o e n hb hx=>?_,λb o e n hx=>?_,λb o e hx=>?_,λb xs e=>tups b xs (I.base.tups b xs e),λb o xs e=>frzs b o xs (I.base.frzs b o xs e),λb ps e=>?_⟩,?_,λx c e=>?_,?_,λx c e=>?_,λp hp=>?_,hok,I.len⟩
 ·exact keep b o (neL b o e) hb (neC b o e hx) (I.base.keep b o e n hb hx) (I.base.free b o e n hx)
 ·obtain⟨sl,e1⟩:=I.base.slot b o e n hb hx
  obtain⟨sl',e2⟩:=slot b _ (neL b o e) hb (neC b o e hx) e1 (I.base.free b o e n hx);exact⟨sl',e2⟩
 ·obtain⟨o',e1⟩:=I.base.there b o e hx
  exact free b o' (neC b o e hx) e1 (I.base.free b o e n hx)
 ·obtain⟨o',e1⟩:=I.base.there b o e hx
  exact there b o' (neC b o e hx) e1
 ·obtain⟨m1,e1⟩:=I.base.tbls b ps e
  obtain⟨m2,e2⟩:=tbls b _ e1;exact⟨m1++m2,by rw[e2,Array.append_assoc]⟩
 ·obtain⟨m,hn,hl⟩:=I.loc
  refine⟨m,ns m hn,λi x v e1 e2 e3=>?_⟩;obtain⟨u,r,l⟩:=hl i x v e1 e2 e3;refine⟨u,r,?_⟩;rcases l with l|⟨k,c,e,z⟩
  ·exact .inl l
  ·exact .inr ⟨k,c,e,cellK x c e _ z⟩
 ·obtain⟨v,z⟩:=I.cell x c e
  exact⟨v,cellK x c e v z⟩
 ·obtain⟨m,⟨o,_,_,ho,_⟩,_⟩:=I.loc
  exact free _ o (λz=>(hch _ z).2.1 rfl) ho I.free
 ·obtain⟨v,o,ho,hd⟩:=I.cell x c e
  exact free c o (λz=>(hch c z).2.2.1 x c e rfl) ho (I.freeC x c e)
 ·obtain⟨e,n,ne,nf,d⟩:=I.pin p hp
  have nch:p.1∉ch:=λz=>(hch p.1 z).2.2.2 p hp rfl
  exact⟨keep p.1 p.2 ne nf nch e n,free p.1 p.2 nch e n,ne,nf,d⟩
theorem Inv.un{t':Nat}(I:Inv X pins σ H s)(u:Un X.fs [] H H' s.heap h')(hok:HOk X.prog X.w H' h'):Inv X pins σ H' { s with heap:=h',toks:=t' }:=by
 obtain⟨m,⟨o,es,ep,ho,r⟩,_⟩:=id I.loc;obtain⟨sl,hL⟩:=u.any ho I.free (by simp);exact I.step (g':=s.gens) (d':=s.drawn) (ch:=[]) (λ_ z=>nomatch z) (λb o _ hb _ e n=>u.keep b o e n hb (by simp)) (λb o _ hb _ e n=>u.slot b o e n hb (by simp)) (λb o _ e n=>u.free b o e n (by simp)) (λb o _ e=>u.there b o e (by simp)) u.tups u.frzs u.tbls (λm' hm=>by
  obtain⟨o',es',ep',ho',r'⟩:=hm;rw[ho]at ho';cases ho';exact⟨_,es',ep',hL,r'⟩) hok I.bare
theorem Inv.call{g':Array GenState}{t':Nat}{d':Drawn}{ch:List Addr}(I:Inv X pins σ H s)(u:Un (frs X.stack) ch H H' s.heap h')(hok:HOk X.prog X.w H' h')(hg:AllBare g')
  (hch:∀b∈ch,(b∈X.ex\/X.s₀.heap.objs.size<=b)/\b≠X.env.locals/\(∀x c,X.env.cells.lookup x=some c->c≠b)/\∀p∈X.pn++pins,p.1≠b) :
  Inv X pins σ H' { s with heap:=h',gens:=g',drawn:=d',toks:=t' }:=by
 obtain⟨m,⟨o,es,ep,ho,r⟩,_⟩:=id I.loc;obtain⟨sl,hL⟩:=u.any ho I.free λz=>(hch _ z).2.1 rfl
 exact I.step (ch:=ch) hch (λb o hL hb hc e n=>u.keep b o e n (λz=>(EA.mp (I.stkSub b z)).elim hL hb) hc) (λb o _ _ hc e n=>u.any e n hc) (λb o hc e n=>u.free b o e n hc) (λb o hc e=>u.there b o e hc) u.tups u.frzs u.tbls (λm' hm=>by
  obtain⟨o',es',ep',ho',r'⟩:=hm;rw[ho]at ho';cases ho';exact⟨_,es',ep',hL,r'⟩) hok hg
theorem Inv.turned{t':Nat}{it:Addr}(I:Inv X pins σ H s)(k:∀b o,b≠it->s.heap.get? b=some o->h'.get? b=some o)(hn:H it=none)(hL:it≠X.env.locals)
  (h1:it∈X.ex\/X.s₀.heap.objs.size<=it) (h2:∀x c,X.env.cells.lookup x=some c->c≠it) (h3:∀p∈X.pn++pins,p.1≠it):Inv X pins σ H { s with heap:=h',toks:=t' }:=by
 have nit:∀b u,H b=some u->b≠it:=λb u e z=>by rw[z,hn]at e;cases e
 refine I.step (g':=s.gens) (d':=s.drawn) (ch:=[it]) (λb hb=>?_) (λb o _ _ hc e _=>k b o (λz=>hc (by simp[z])) e) (λb o _ _ hc e _=>⟨o.slots,k b o (λz=>hc (by simp[z])) e⟩) (λ_ _ _ _ n=>n)
  (λb o hc e=>⟨o,k b o (λz=>hc (by simp[z])) e⟩) (λ_ _ e=>e) (λ_ _ _ e=>e) (λb ps e=>⟨#[],by rw[e];simp⟩) (λm hm=>?_) (λb u e=>?_) I.bare
 ·have e:b=it:=by simpa using hb
  subst e;exact⟨h1,hL,h2,h3⟩
 ·obtain⟨o,es,ep,ho,r⟩:=hm
  exact⟨o,es,ep,k _ o (E2 hL) ho,r⟩
 ·refine(I.hok b u e).stay (λc v hc q=>k c v ?_ q) (λ_ q=>q) λ_ _ q=>q
  rcases hc with z|z
  ·rw[z];exact nit b u e
  ·exact nit c _ z
theorem Inv.tok(I:Inv X pins σ H s)(t:Nat):Inv X pins σ H { s with toks:=t }:=I.un (h':=s.heap) (t':=t) Un.refl I.hok
theorem Inv.kept{t':Nat}(I:Inv X pins σ H s)(k:∀b u,s.heap.get? b=some u->h'.get? b=some u):Inv X pins σ H { s with heap:=h',toks:=t' }:=I.un (Un.kept k) (I.hok.kept k)
theorem Inv.laid{a:Addr}{o:HO}{t':Nat}(I:Inv X pins σ H s)(k:∀b u,s.heap.get? b=some u->h'.get? b=some u)(hp:s.heap.objs.size<=a)(new:ObjOk X.prog X.w (upd H a o) h' a o):
  Inv X pins σ (upd H a o) { s with heap:=h',toks:=t' }:=I.un (Un.laid k hp (I.hok.fresh hp)) (I.hok.laid k hp new)
theorem Inv.write{x e:Addr}{o:HO}{t':Nat}(I:Inv X pins σ H s)(mu:Mut (H x))(he:e=x\/H e=some (.own x))(k:∀b u,b≠e->s.heap.get? b=some u->h'.get? b=some u)(heo:∃u,h'.get? e=some u)
  (new:ObjOk X.prog X.w (upd H x o) h' x o):Inv X pins σ (upd H x o) { s with heap:=h',toks:=t' }:=I.un (Un.write mu he k heo) (I.hok.write mu he k heo new)
theorem Inv.pins_of{pins':List (Addr×Obj)}(I:Inv X pins σ H s)(h:∀p∈pins',s.heap.get? p.1=some p.2/\H p.1=none/\p.1≠X.env.locals/\p.1∉X.fs/\∀v,p.2.data≠.cell v):Inv X pins' σ H s:=
 ⟨I.ok,I.os,I.bare,I.base,I.loc,I.cell,I.free,I.freeC,λp hp=>(ET.mp hp).elim (λz=>I.pin p (FB _ z)) (h p),I.hok,I.len⟩
theorem l7{N:List Str}(hN:N.Nodup){i j:Nat}{x:Str}(a:N[i]? = some x)(b:N[j]? = some x):i=j:=by
 obtain⟨h1,e1⟩:=Ei.mp a;obtain⟨h2,e2⟩:=Ei.mp b;exact(List.getElem_inj hN).mp (e1.trans e2.symm)
theorem oo{M:Model}{A:Around}{E:Value->Shared->Prop}{i:Nat}{x:Str}{v:V}{u:Value}{Q:Unit->Shared->Prop}(I:Inv X pins σ H s)(hN:X.N.Nodup)(hi:X.N[i]? = some x)(hx:Loc X.env.scope x)(r:RelV v u)
  (h:∀s',Inv X pins (σ.set i (some v)) H s'->(∃a,Kl a s.heap s'.heap/\(a=X.env.locals\/X.env.cells.lookup x=some a))->Q () s') (hf:X.fn x=true\/X.env.scope.names.lookup x=some .local:=by first|exact .inl rfl|exact .inr rfl|assumption):wpAny M A (storeName X.env x u) Q E s:=by
 obtain⟨m,hn,hl⟩:=id I.loc;have hcls:(X.env.scope.kind == .class || (X.env.scope.kind == .module && X.env.locals != X.env.globals))=false:=by rw[I.ok.kind];rfl
 have hiσ:i<σ.length:=by rw[I.len];exact(Ei.mp hi).1
 have cne:=I.cne;have tracked:∀{a:Addr}{h':Heap},(∃o,s.heap.get? a=some o/\H a=none)->Kl a s.heap h'->HOk X.prog X.w H h':=λ{a h'} ha hs b ob e=>by
  obtain⟨_,_,hfree⟩:=ha;refine(I.hok b ob e).stay (λc w' hc q=>(hs.2 c ?_).trans q) (λ_ q=>q) λ_ _ q=>q
  rintro rfl;rcases hc with rfl|hc
  ·rw[hfree]at e;cases e
  ·rw[hfree]at hc;cases hc
 rcases hx with hk|hk
 ·refine wpAny_storeName_local hk hn (λh' hn' hs=>?_) hcls
  obtain⟨oL,_,_,hoL,_⟩:=id hn;refine h _ ⟨I.ok,I.os,I.bare,⟨λb o e n hb hx=>?_,λb o e n hb hx=>?_,I.base.free,λb o e hx=>?_,I.base.tups,I.base.frzs,I.base.tbls⟩,⟨_,hn',λj y v' e1 e2 e3=>?_⟩,λy c e=>?_,I.free,I.freeC,λp hp=>?_,tracked ⟨oL,hoL,I.free⟩ hs,by simpa using I.len⟩ ⟨_,hs,.inl rfl⟩
  ·exact(hs.2 b (EK (EN (Ew e) I.ok.above))).trans (I.base.keep b o e n hb hx)
  ·obtain⟨sl,e1⟩:=I.base.slot b o e n hb hx
   exact⟨sl,(hs.2 b (EK (EN (Ew e) I.ok.above))).trans e1⟩
  ·obtain⟨o',e1⟩:=I.base.there b o e hx
   exact⟨o',(hs.2 b (EK (EN (Ew e) I.ok.above))).trans e1⟩
  ·by_cases hj:j=i
   ·subst hj
    rw[hi]at e1;cases e1;rw[JB hiσ]at e2;cases e2;exact⟨u,r,.inl ⟨hk,by simp⟩⟩
   ·rw[JY (E2 hj)]at e2
    obtain⟨u',r',q⟩:=hl j y v' e1 e2 e3;refine⟨u',r',?_⟩;rcases q with⟨k,e⟩|⟨k,c,e,z⟩
    ·refine .inl ⟨k,?_⟩
     have:y≠x:=λe=>hj (l7 hN e1 (e▸hi))
     simp[this,e]
    ·exact .inr ⟨k,c,e,z.sameBut hs (cne y c e)⟩
  ·obtain⟨w',z⟩:=I.cell y c e
   exact⟨w',z.sameBut hs (cne y c e)⟩
  ·obtain⟨e,n,ne,nf,d⟩:=I.pin p hp
   exact⟨(hs.2 p.1 ne).trans e,n,ne,nf,d⟩
 ·have hfn:X.fn x=true:=by
   rcases hf with z|z
   ·exact z
   ·rw[z]at hk;cases hk
  obtain⟨c,hc⟩:=I.ok.has x (.inl hk);obtain⟨w',z⟩:=I.cell x c hc;refine wpAny_storeName_cell I.ok.kind hk hc z (λh' hc' hs=>?_);obtain⟨oc,hoc,hocd⟩:=id z;refine h { s with heap:=h' } ⟨I.ok,I.os,I.bare,⟨λb o e n hb hx=>?_,λb o e n hb hx=>?_,I.base.free,λb o e hx=>?_,I.base.tups,I.base.frzs,I.base.tbls⟩,⟨m,hn.sameBut hs (E2 (cne x c hc)),λj y v' e1 e2 e3=>?_⟩,λy c' e=>?_,I.free,I.freeC,λp hp=>?_,tracked ⟨oc,hoc,I.freeC x c hc⟩ hs,by simpa using I.len⟩ ⟨c,hs,.inr hc⟩
  ·exact(hs.2 b (EK (EN (Ew e) (I.ok.cab x c hfn hc)))).trans (I.base.keep b o e n hb hx)
  ·obtain⟨sl,e1⟩:=I.base.slot b o e n hb hx
   exact⟨sl,(hs.2 b (EK (EN (Ew e) (I.ok.cab x c hfn hc)))).trans e1⟩
  ·obtain⟨o',e1⟩:=I.base.there b o e hx
   exact⟨o',(hs.2 b (EK (EN (Ew e) (I.ok.cab x c hfn hc)))).trans e1⟩
  ·by_cases hj:j=i
   ·subst hj
    rw[hi]at e1;cases e1;rw[JB hiσ]at e2;cases e2;exact⟨u,r,.inr ⟨.inl hk,c,hc,hc'⟩⟩
   ·rw[JY (E2 hj)]at e2
    obtain⟨u',r',q⟩:=hl j y v' e1 e2 e3;refine⟨u',r',?_⟩;rcases q with q|⟨k,c',e,z'⟩
    ·exact .inl q
    ·refine .inr ⟨k,c',e,z'.sameBut hs ?_⟩
     rintro rfl;exact hj (l7 hN e1 (I.ok.inj _ _ _ e hc▸hi))
  ·by_cases hcc:c'=c
   ·subst hcc;exact⟨_,hc'⟩
   ·obtain⟨w2,z2⟩:=I.cell y c' e
    exact⟨w2,z2.sameBut hs hcc⟩
  ·obtain⟨e,n,ne,nf,d⟩:=I.pin p hp
   refine⟨(hs.2 p.1 ?_).trans e,n,ne,nf,d⟩;intro q;rw[q,hoc]at e;have q':oc=p.2:=EE e;exact d w' (by rw[<-q'];exact hocd)
theorem dE{M:Model}{A:Around}{E:Value->Shared->Prop}{i:Nat}{x:Str}{v:V}{u:Value}{Q:Unit->Shared->Prop}(I:Inv X pins σ H s)(hN:X.N.Nodup)(hi:X.N[i]? = some x)(hx:Loc X.env.scope x)(r:RelV v u)
  (h:∀s',Inv X pins (σ.set i (some v)) H s'->Q () s') (hf:X.fn x=true\/X.env.scope.names.lookup x=some .local:=by first|exact .inl rfl|exact .inr rfl|assumption):wpAny M A (storeName X.env x u) Q E s:=
 oo I hN hi hx r (λs' I' _=>h s' I') hf
theorem Inv.call'{s':Shared}{ch:List Addr}(I:Inv X pins σ H s)(ho:s'.os=s.os)(u:Un (frs X.stack) ch H H' s.heap s'.heap)(hok:HOk X.prog X.w H' s'.heap)(hg:AllBare s'.gens)
  (hch:∀b∈ch,(b∈X.ex\/X.s₀.heap.objs.size<=b)/\b≠X.env.locals/\(∀x c,X.env.cells.lookup x=some c->c≠b)/\∀p∈X.pn++pins,p.1≠b):Inv X pins σ H' s':=by
 obtain⟨h',g',d',t',o'⟩:=s';have e:o'=s.os:=ho;subst e;exact I.call (g':=g') (t':=t') (d':=d') u hok hg hch
end
noncomputable abbrev XK:=Value->Option Addr->Hp->Prop
noncomputable abbrev St:=List (Option V)
noncomputable abbrev VK:=V->Hp->Prop
noncomputable abbrev TE:=St->Hp->VK->Prop
noncomputable abbrev TT:=St->Hp->(Bool->Hp->Prop)->Prop
noncomputable abbrev TA:=St->Hp->(List V->Hp->Prop)->Prop
structure Ends where
 nx:St->Hp->Prop
 rt:VK
 bk:St->Hp->Prop:=λ_ _=>False
 ct:St->Hp->Prop:=λ_ _=>False
noncomputable abbrev TS:=Ends->St->Hp->Prop
def EP(X:Cx)(pins:List (Addr×Obj))(σ:St)(Q:VK)(u:Value)(s':Shared):Prop:=∃v H',Inv X pins σ H' s'/\RelV v u/\Q v H'
def TP(X:Cx)(pins:List (Addr×Obj))(σ:St)(Q:Bool->Hp->Prop)(b:Bool)(s':Shared):Prop:=∃H',Inv X pins σ H' s'/\Q b H'
def AP(X:Cx)(pins:List (Addr×Obj))(σ:St)(Q:List V->Hp->Prop)(us:List Value)(s':Shared):Prop:=∃vs H',Inv X pins σ H' s'/\Vals vs us/\Q vs H'
def SP(X:Cx)(pins:List (Addr×Obj))(D:Ends)(f:Flow)(s':Shared):Prop:=
 match f with
 | .next=>∃σ' H',Inv X pins σ' H' s'/\D.nx σ' H'
 | .brk=>∃σ' H',Inv X pins σ' H' s'/\D.bk σ' H'
 | .cont=>∃σ' H',Inv X pins σ' H' s'/\D.ct σ' H'
 | .ret u=>∃v σ' H',Inv X pins σ' H' s'/\RelV v u/\D.rt v H'
def PE(X:Cx)(e:Expr)(t:TE):Prop:=
 ∀(pins:List (Addr×Obj)) (s:Shared) (σ:St) (H:Hp) (Q:VK),Inv X pins σ H s->t σ H Q->wpAny (model X.prog X.w) X.A (eval e X.env) (EP X pins σ Q) X.xe s
def PT(X:Cx)(e:Expr)(t:TT):Prop:=
 ∀(pins:List (Addr×Obj)) (s:Shared) (σ:St) (H:Hp) (Q:Bool->Hp->Prop),Inv X pins σ H s->t σ H Q->wpAny (model X.prog X.w) X.A (isTrue e X.env (eval e X.env)) (TP X pins σ Q) X.xe s
def PW(X:Cx)(e:Expr)(t:TT):Prop:=
 ∀(whole:Sem Value) (pins:List (Addr×Obj)) (s:Shared) (σ:St) (H:Hp) (Q:Bool->Hp->Prop),Inv X pins σ H s->t σ H Q->wpAny (model X.prog X.w) X.A (isTrue e X.env whole) (TP X pins σ Q) X.xe s
theorem PW.pt{X:Cx}{e:Expr}{t:TT}(h:PW X e t):PT X e t:=h _
def PA(X:Cx)(es:List Expr)(t:TA):Prop:=
 ∀(pos:Pos) (pins:List (Addr×Obj)) (s:Shared) (σ:St) (H:Hp) (Q:List V->Hp->Prop),Inv X pins σ H s->t σ H Q->wpAny (model X.prog X.w) X.A (spliced (backTo pos (Ot es X.env))) (AP X pins σ Q) X.xe s
def PS(X:Cx)(st:Stmt)(t:TS):Prop:=
 ∀(pins:List (Addr×Obj)) (s:Shared) (σ:St) (H:Hp) (D:Ends),Inv X pins σ H s->t D σ H->wpAny (model X.prog X.w) X.A (exec st X.env) (SP X pins D) X.xe s
def PSs(X:Cx)(st:List Stmt)(t:TS):Prop:=
 ∀(pins:List (Addr×Obj)) (s:Shared) (σ:St) (H:Hp) (D:Ends),Inv X pins σ H s->t D σ H->wpAny (model X.prog X.w) X.A (execs st X.env) (SP X pins D) X.xe s
theorem thn{α:Type}{t:Sem α}{Q Q':α->Shared->Prop}{M:Model}{A:Around}{E:Value->Shared->Prop}{s:Shared}(h:wpAny M A t Q E s)(hQ:∀a s,Q a s->Q' a s):wpAny M A t Q' E s:=Oy h hQ λ_ _ x=>x
section
variable{X:Cx}
def A0(i:Nat):TE:=λσ H Q=>∃v,σ[i]? = some (some v)/\Q v H
def tC(v:V):TE:=λ_ H Q=>Q v H
theorem yh {i:Nat}{x:Str}{pos:Pos}(hN:X.N[i]? = some x) (hv:Vis X.env.scope x) (hd:(x == ("__debug__" : Str))=false:=by decide) (hcd:(x == ("__classdict__" : Str))=false:=by decide):PE X (.Name x pos) (A0 i):=by
 intro pins s σ H Q I h;obtain⟨v,e,h⟩:=h;obtain⟨m,hn,hl⟩:=I.loc;obtain⟨u,r,l⟩:=hl i x v hN e hv;have fin:EP X pins σ Q u s:=⟨v,H,I,r,h⟩;rcases l with⟨hk,hm⟩|⟨hk,c,hc,hcell⟩
 ·exact wpAny_Name (wpAny_loadName_local I.ok.kind hk hn hm fin) hd
 ·rcases hk with hk|hk
  ·exact wpAny_Name (wpAny_loadName_cell I.ok.kind hk hc hcell fin) hd
  ·exact wpAny_Name (wpAny_loadName_free I.ok.kind hk hc hcell fin hcd) hd
theorem ug{i j pos}:PE X (.Constant (.int i) j pos) (tC (.int i)):=λ_ _ _ H _ I h=>wpAny_Constant_int ⟨.int i,H,I.tok _,⟨_,rfl⟩,h⟩
theorem A1{b j pos}:PE X (.Constant (.bool b) j pos) (tC (.bl b)):=λ_ _ _ H _ I h=>Constant_bool ⟨.bl b,H,I,rfl,h⟩
theorem yi{j pos}:PE X (.Constant .none j pos) (tC .non):=λ_ _ _ H _ I h=>Constant_none ⟨.non,H,I,rfl,h⟩
theorem yj{x j pos}:PE X (.Constant (.str x) j pos) (tC (.str x)):=λ_ _ _ H _ I h=>Ir ⟨.str x,H,I.tok _,⟨_,rfl⟩,h⟩
def Gl(X:Cx)(x:Str):Prop:=X.env.kindOf x=some .globalImplicit
theorem kR{E:Value->Shared->Prop}{pins:List (Addr×Obj)}{s:Shared}{σ:St}{H:Hp}{x:Str}{u:Value}{pos:Pos}{Q:Value->Shared->Prop}(I:Inv X pins σ H s)(hg:Gl X x)(hm:X.mg x=some u)(h:Q u s)
  (hd:(x == ("__debug__" : Str))=false:=by decide):wpAny (model X.prog X.w) X.A (eval (.Name x pos) X.env) Q E s:=
 IG I.ok.kind hg (Calls.loadGlobal_global (by rw[I.ok.glob];exact I.mod.glob.keeps I.bk) hm h) hd
theorem dr{E:Value->Shared->Prop}{pins:List (Addr×Obj)}{s:Shared}{σ:St}{H:Hp}{x:Str}{u:Value}{pos:Pos}{Q:Value->Shared->Prop}(I:Inv X pins σ H s)(hg:Gl X x)(hm:X.mg x=none)(hv:bootBuiltins x=some u)(h:Q u s)
  (hn:x≠"__name__":=by decide) (hd:(x == ("__debug__" : Str))=false:=by decide):wpAny (model X.prog X.w) X.A (eval (.Name x pos) X.env) Q E s:=by
 obtain⟨mb,h1,h2⟩:=I.mod.blt;exact IG I.ok.kind hg (Calls.loadGlobal_builtin (by rw[I.ok.glob];exact I.mod.glob.keeps I.bk) hm (by rw[I.ok.blt];exact h1.keeps I.bk) ((h2 x hn).trans hv) h) hd
theorem ve {x:Str}{v:V}{u:Value}{pos:Pos}(hg:Gl X x) (hm:X.mg x=some u) (r:RelV v u) (hd:(x == ("__debug__" : Str))=false:=by decide):PE X (.Name x pos) (tC v):=
 λ_ _ _ H _ I h=>kR I hg hm ⟨v,H,I,r,h⟩ hd
theorem vf {x:Str}{v:V}{u:Value}{pos:Pos}(hg:Gl X x) (hm:X.mg x=none) (hv:bootBuiltins x=some u) (r:RelV v u) (hn:x≠"__name__":=by decide) (hd:(x == ("__debug__" : Str))=false:=by decide):PE X (.Name x pos) (tC v):=
 λ_ _ _ H _ I h=>dr I hg hm hv ⟨v,H,I,r,h⟩ hn hd
variable{a b:Expr}{ta tb:TE}{pos:Pos}
def tB(t:TE):TT:=λσ H Q=>t σ H λx H1=>∃c,x=.bl c/\Q c H1
theorem yk{e:Expr}{t:TE}(h:PE X e t)(he:∀whole,isTrue e X.env whole=(do let v <-whole;standAt e.pos;OF [v] (truthy v)):=by intro _;rfl):PT X e (tB t):=by
 intro pins s σ H Q I hw;refine isTrue_plain (thn (h pins s σ H _ I hw) λv s1 ⟨x,H1,I1,r1,q1⟩=>?_) (he _);obtain⟨d,rfl,q⟩:=q1;cases r1;exact Oz ⟨H1,I1,q⟩
variable{tA tB':TT}{rest:List Expr}
def A2(t u:TT):TT:=λσ H Q=>t σ H λc H1=>if c=true then u σ H1 Q else Q false H1
def tOr(t u:TT):TT:=λσ H Q=>t σ H λc H1=>if c=true then Q true H1 else u σ H1 Q
def A3(t:TT):TT:=λσ H Q=>t σ H λc H1=>Q (!c) H1
theorem vg(ha:PT X a tA):PW X (.BoolOp .And [a] pos) tA:=by
 intro wh pins s σ H Q I h;refine isTrue_and (thn (ha pins s σ H Q I h) λc s1 e=>?_);cases c with
 | true=>exact isTrue_and_nil e
 | false=>exact e
theorem yl(ha:PT X a tA):PW X (.BoolOp .Or [a] pos) tA:=by
 intro wh pins s σ H Q I h;refine isTrue_or (thn (ha pins s σ H Q I h) λc s1 e=>?_);cases c with
 | false=>exact isTrue_or_nil e
 | true=>exact e
theorem ym(ha:PT X a tA)(hb:PW X (.BoolOp .And (b::rest) pos) tB'):PW X (.BoolOp .And (a::b::rest) pos) (A2 tA tB'):=by
 intro wh pins s σ H Q I h;refine isTrue_and (thn (ha pins s σ H _ I h) λc s1 ⟨H1,I1,q1⟩=>?_);cases c with
 | true=>exact hb wh pins s1 σ H1 Q I1 q1
 | false=>exact⟨H1,I1,q1⟩
theorem A4(ha:PT X a tA)(hb:PW X (.BoolOp .Or (b::rest) pos) tB'):PW X (.BoolOp .Or (a::b::rest) pos) (tOr tA tB'):=by
 intro wh pins s σ H Q I h;refine isTrue_or (thn (ha pins s σ H _ I h) λc s1 ⟨H1,I1,q1⟩=>?_);cases c with
 | true=>exact⟨H1,I1,q1⟩
 | false=>exact hb wh pins s1 σ H1 Q I1 q1
theorem yn(ha:PT X a tA):PT X (.UnaryOp .Not a pos) (A3 tA):=by
 intro pins s σ H Q I h;exact isTrue_not (ha pins s σ H (λc H1=>Q (!c) H1) I h)
def vh(ta tb:TE):TE:=λσ H Q=>ta σ H λx H1=>∃c,x=.bl c/\if c=true then tb σ H1 Q else Q (.bl false) H1
def A5(ta tb:TE):TE:=λσ H Q=>ta σ H λx H1=>∃c,x=.bl c/\if c=true then Q (.bl true) H1 else tb σ H1 Q
theorem yo{op}{t:TE}(h:PE X a t):PE X (.BoolOp op [a] pos) t:=λpins s σ H Q I hw=>BoolOp_one (h pins s σ H Q I hw)
theorem yp(ha:PE X a ta)(hb:PE X (.BoolOp .And (b::rest) pos) tb):PE X (.BoolOp .And (a::b::rest) pos) (vh ta tb):=by
 intro pins s σ H Q I h;refine BoolOp_and (thn (ha pins s σ H _ I h) λv s1 ⟨x,H1,I1,r1,q1⟩=>?_);obtain⟨c,rfl,q1⟩:=q1;cases r1;refine Oz ?_;cases c with
 | true=>exact hb pins s1 σ H1 Q I1 q1
 | false=>exact⟨.bl false,H1,I1,rfl,q1⟩
theorem A6(ha:PE X a ta)(hb:PE X (.BoolOp .Or (b::rest) pos) tb):PE X (.BoolOp .Or (a::b::rest) pos) (A5 ta tb):=by
 intro pins s σ H Q I h;refine BoolOp_or (thn (ha pins s σ H _ I h) λv s1 ⟨x,H1,I1,r1,q1⟩=>?_);obtain⟨c,rfl,q1⟩:=q1;cases r1;refine Oz ?_;cases c with
 | false=>exact hb pins s1 σ H1 Q I1 q1
 | true=>exact⟨.bl true,H1,I1,rfl,q1⟩
def tIf(t:TT)(ta tb:TE):TE:=λσ H Q=>t σ H λc H1=>if c=true then ta σ H1 Q else tb σ H1 Q
theorem qY{c:Expr}(hc:PT X c tA)(ha:PE X a ta)(hb:PE X b tb):PE X (.IfExp c a b pos) (tIf tA ta tb):=by
 intro pins s σ H Q I h;refine wpAny_IfExp (thn (hc pins s σ H _ I h) λd s1 ⟨H1,I1,q1⟩=>?_);cases d with
 | true=>exact ha pins s1 σ H1 Q I1 q1
 | false=>exact hb pins s1 σ H1 Q I1 q1
end
def SqL(K:Ec)(H:Hp)(a:Addr)(xs:List V):Prop:=
 Rd H a (.lst xs)\/
  ∃(o:Obj) (its:Array Value) (n:Nat),K.lookup a=some o/\o.cls=.type "list"/\o.dict=none/\o.data=.seq its n/\its.size<=Oo/\Vals xs its.toList
def SqT(K:Ec)(H:Hp)(a:Addr)(xs:List V):Prop:=
 Rd H a (.tup xs)\/
  ∃(o:Obj) (its:Array Value) (n:Nat),K.lookup a=some o/\o.cls=.type "tuple"/\o.data=.seq its n/\its.size<=Oo/\Vals xs its.toList
noncomputable def DC:Value->Option V
 | .none=>some .non
 | .bool b=>some (.bl b)
 | .int i _=>some (.int i)
 | .str x _=>some (.str x)
 | .bytes b _=>some (.byt b)
 | .float b _=>some (.flt b)
 | .ref a=>some (.ref a)
 | .type n=>some (.ty n)
 | _=>none
theorem RelV.abs{x:V}{u:Value}(r:RelV x u):DC u=some x:=by
 cases x with
 | non=>cases r;rfl
 | bl _=>cases r;rfl
 | int _=>obtain⟨t,rfl⟩:=r;rfl
 | str _=>obtain⟨t,rfl⟩:=r;rfl
 | byt _=>obtain⟨t,rfl⟩:=r;rfl
 | flt _=>obtain⟨t,rfl⟩:=r;rfl
 | ref _=>cases r;rfl
 | ty _=>cases r;rfl
theorem RelV.inj{x y:V}{u:Value}(r:RelV x u)(q:RelV y u):x=y:=EE (r.abs.symm.trans q.abs)
theorem Vals.inj:∀{xs ys:List V}{us:List Value},Vals xs us->Vals ys us->xs=ys
 | _,_,_,.nil,.nil=>rfl
 | _,_,_,.cons r t,.cons r' t'=>by rw[r.inj r',Vals.inj t t']
section
variable{X:Cx}{pins:List (Addr×Obj)}{σ:St}{H:Hp}{s:Shared}{a:Addr}{xs ys:List V}
theorem SqL.of{K:Ec}(h:H a=some (.lst xs)):SqL K H a xs:=.inl (.inl h)
theorem SqT.of{K:Ec}(h:H a=some (.tup xs)):SqT K H a xs:=.inl (.inl h)
theorem Inv.list(I:Inv X pins σ H s)(h:SqL X.K H a xs):∃its:List Value,Vals xs its/\PlainL s.heap a its.toArray/\xs.length<=Oo:=by
 rcases h with h|⟨o,its,n,hk,hc,hd,hs,hz,r⟩
 ·obtain⟨z,its,n,r,e⟩:=h.ok I.hok
  exact⟨its,r,⟨_,n,e,rfl,rfl,rfl⟩,z⟩
 ·refine⟨its.toList,r,⟨o,n,I.kIn a o hk,hc,hd,by simpa using hs⟩,?_⟩
  have e:=r.length;simp only[E7]at e;lia
theorem Inv.tuple(I:Inv X pins σ H s)(h:SqT X.K H a xs):∃its:List Value,Vals xs its/\IsTup s.heap a its.toArray/\xs.length<=Oo:=by
 rcases h with h|⟨o,its,n,hk,hc,hs,hz,r⟩
 ·obtain⟨z,its,r,p⟩:=h.ok I.hok
  exact⟨its,r,p,z⟩
 ·refine⟨its.toList,r,⟨o,I.kIn a o hk,hc,n,by simpa using hs⟩,?_⟩
  have e:=r.length;simp only[E7]at e;lia
theorem Inv.list_inj(I:Inv X pins σ H s)(h:SqL X.K H a xs)(h':SqL X.K H a ys):xs=ys:=by
 obtain⟨its,r,⟨o,n,e,_,_,d⟩,_⟩:=I.list h;obtain⟨its',r',⟨o',n',e',_,_,d'⟩,_⟩:=I.list h';rw[e]at e';cases e';rw[d]at d';injection d' with d1 _
 have:its=its':=by simpa using congrArg MH d1
 subst this;exact r.inj r'
theorem Inv.tuple_inj(I:Inv X pins σ H s)(h:SqT X.K H a xs)(h':SqT X.K H a ys):xs=ys:=by
 obtain⟨its,r,⟨o,e,_,n,d⟩,_⟩:=I.tuple h;obtain⟨its',r',⟨o',e',_,n',d'⟩,_⟩:=I.tuple h';rw[e]at e';cases e';rw[d]at d';injection d' with d1 _
 have:its=its':=by simpa using congrArg MH d1
 subst this;exact r.inj r'
end
noncomputable abbrev Cx.wish(X:Cx)(E:Value->Shared->Prop):Cx:={ X with xe:=E }
noncomputable abbrev Cx.nox(X:Cx):Cx:=X.wish λ_ _=>False
theorem Cx.Ok.wish{X:Cx}(ok:X.Ok)(E:Value->Shared->Prop):(X.wish E).Ok:=
 ⟨ok.mod,ok.kind,ok.glob,ok.blt,ok.above,ok.inj,ok.has,ok.cab,ok.hd,ok.frames,ok.stk,ok.exf,ok.bs,ok.bsz,ok.noex,ok.exfs,ok.funs,ok.frf⟩
theorem Cx.Ok.unwish{X:Cx}{E:Value->Shared->Prop}(ok:(X.wish E).Ok):X.Ok:=
 ⟨ok.mod,ok.kind,ok.glob,ok.blt,ok.above,ok.inj,ok.has,ok.cab,ok.hd,ok.frames,ok.stk,ok.exf,ok.bs,ok.bsz,ok.noex,ok.exfs,ok.funs,ok.frf⟩
section
variable{X:Cx}{pins:List (Addr×Obj)}{σ:St}{H:Hp}{s:Shared}{E:Value->Shared->Prop}
theorem Inv.wish(I:Inv X pins σ H s)(E:Value->Shared->Prop):Inv (X.wish E) pins σ H s:=⟨I.ok.wish E,I.os,I.bare,I.base,I.loc,I.cell,I.free,I.freeC,I.pin,I.hok,I.len⟩
theorem Inv.unwish(I:Inv (X.wish E) pins σ H s):Inv X pins σ H s:=⟨I.ok.unwish,I.os,I.bare,I.base,I.loc,I.cell,I.free,I.freeC,I.pin,I.hok,I.len⟩
theorem SP.unwish{D:Ends}{f:Flow}{s':Shared}(h:SP (X.wish E) pins D f s'):SP X pins D f s':=by
 cases f with
 | next=>obtain⟨σ',H',I,q⟩:=h;exact⟨σ',H',I.unwish,q⟩
 | brk=>obtain⟨σ',H',I,q⟩:=h;exact⟨σ',H',I.unwish,q⟩
 | cont=>obtain⟨σ',H',I,q⟩:=h;exact⟨σ',H',I.unwish,q⟩
 | ret u=>obtain⟨v,σ',H',I,r,q⟩:=h;exact⟨v,σ',H',I.unwish,r,q⟩
theorem PSs.nox{st:List Stmt}{t:TS}(h:PSs X.nox st t):PSs X st t:=λpins s σ H D I hw=>
 Oy (h pins s σ H D (I.wish _) hw) (λ_ _ q=>q.unwish) λ_ _ z=>FI z
end
section
variable{X:Cx}{st:Stmt}{rest:List Stmt}{t u:TS}{e:Expr}{te:TE}{pos:Pos}
def vi:TS:=λD σ H=>D.nx σ H
def A7(t u:TS):TS:=λD σ H=>t { D with nx:=u D } σ H
theorem vj:PSs X [] vi:=λ_ _ σ H _ I h=>wpAny_execs_nil ⟨σ,H,I,h⟩
theorem qZ(h1:PS X st t)(h2:PSs X rest u):PSs X (st::rest) (A7 t u):=by
 intro pins s σ H D I h;refine wpAny_execs_cons (thn (h1 pins s σ H { D with nx:=u D } I h) λf s1 q=>?_);cases f with
 | next=>
  obtain⟨σ',H',I',q⟩:=q;exact h2 pins s1 σ' H' D I' q
 | ret v=>exact q
 | brk=>exact q
 | cont=>exact q
theorem vm(h1:PS X st t):PSs X [st] t:=by
 intro pins s σ H D I h;refine wpAny_execs_cons (thn (h1 pins s σ H D I h) λf s1 q=>?_);cases f with
 | next=>exact wpAny_execs_nil q
 | ret v=>exact q
 | brk=>exact q
 | cont=>exact q
def vn:TS:=λD σ H=>D.ct σ H
theorem kT:PS X (.Continue pos) vn:=λ_ _ σ H _ I h=>wpAny_Continue ⟨σ,H,I,h⟩
theorem Inv.quiet{pins:List (Addr×Obj)}{σ:St}{H:Hp}{s:Shared}(I:Inv X pins σ H s):interactive X.env=false:=by simp[interactive,I.ok.kind]
def vo(te:TE):TS:=λD σ H=>te σ H λ_ H1=>D.nx σ H1
theorem vp(he:PE X e te)(hs:OL e none pos.line X.env=pure false:=by rfl):PS X (.Expr e pos) (vo te):=by
 intro pins s σ H D I h;exact wpAny_Expr_any (thn (he pins s σ H _ I h) λv s1 ⟨x,H1,I1,r1,q1⟩=>⟨σ,H1,I1,q1⟩) I.quiet hs
def A8(te:TE):TS:=λD σ H=>te σ H D.rt
theorem yq(he:PE X e te):PS X (.Return (some e) pos) (A8 te):=by
 intro pins s σ H D I h;exact wpAny_Return_some (thn (he pins s σ H _ I h) λv s1 ⟨x,H1,I1,r1,q1⟩=>⟨x,σ,H1,I1,r1,q1⟩)
def A9(c:TT)(t u:TS):TS:=λD σ H=>c σ H λb H1=>if b=true then t D σ H1 else u D σ H1
theorem Ba{c:Expr}{a b:List Stmt}{tc:TT}(hc:PT X c tc)(ha:PSs X a t)(hb:PSs X b u):PS X (.If c a b pos) (A9 tc t u):=by
 intro pins s σ H D I h;refine wpAny_If (thn (hc pins s σ H _ I h) λd s1 ⟨H1,I1,q1⟩=>?_);cases d with
 | true=>exact ha pins s1 σ H1 D I1 q1
 | false=>exact hb pins s1 σ H1 D I1 q1
def uh:TS:=λ_ _ _=>False
theorem q9:PS X st uh:=λ_ _ _ _ _ _ h=>h.elim
end
noncomputable abbrev TG:=V->St->Hp->(St->Hp->Prop)->Prop
noncomputable abbrev TGs:=List V->St->Hp->(St->Hp->Prop)->Prop
def PG(X:Cx)(target:Expr)(t:TG):Prop:=
 ∀(pins:List (Addr×Obj)) (s:Shared) (σ:St) (H:Hp) (v:V) (u:Value) (Q:St->Hp->Prop),Inv X pins σ H s->RelV v u->t v σ H Q->
  wpAny (model X.prog X.w) X.A (assign target X.env u) (λ_ s'=>∃σ' H',Inv X pins σ' H' s'/\Q σ' H') X.xe s
def PGs(X:Cx)(ts:List Expr)(t:TGs):Prop:=
 ∀(pins:List (Addr×Obj)) (s:Shared) (σ:St) (H:Hp) (vs:List V) (us:List Value) (Q:St->Hp->Prop),Inv X pins σ H s->Vals vs us->t vs σ H Q->
  wpAny (model X.prog X.w) X.A (assignInOrder ((OE ts X.env).map (·.2)) us) (λ_ s'=>∃σ' H',Inv X pins σ' H' s'/\Q σ' H') X.xe s
noncomputable abbrev vq:=V->V->V->Hp->(Hp->Prop)->Prop
def Bb(X:Cx)(t:vq):Prop:=
 ∀(pins:List (Addr×Obj)) (s:Shared) (σ:St) (H:Hp) (o i v:V) (ov iv u:Value) (Q:Hp->Prop),Inv X pins σ H s->RelV o ov->RelV i iv->RelV v u->t o i v H Q->
  wpAny (model X.prog X.w) X.A (setItem ov iv u) (λ_ s'=>∃H',Inv X pins σ H' s'/\Q H') X.xe s
noncomputable abbrev TIp:=V->V->Hp->VK->Prop
def PIp(X:Cx)(op:Operator)(t:TIp):Prop:=
 ∀(pins:List (Addr×Obj)) (s:Shared) (σ:St) (H:Hp) (x y:V) (v u:Value) (Q:VK),Inv X pins σ H s->RelV x v->RelV y u->t x y H Q->
  wpAny (model X.prog X.w) X.A (OS op v u) (EP X pins σ Q) X.xe s
section
variable{X:Cx}{pos:Pos}
def dm(i:Nat):TG:=λv σ H Q=>Q (σ.set i (some v)) H
theorem vt{i:Nat}{x:Str}(hN:X.N.Nodup)(hi:X.N[i]? = some x)(hx:Loc X.env.scope x)(hf:X.fn x=true\/X.env.scope.names.lookup x=some .local:=by first|exact .inl rfl|exact .inr rfl|assumption):PG X (.Name x pos) (dm i):=by
 intro pins s σ H v u Q I r h;exact wpAny_assign_Name (dE I hN hi hx r (λs' I'=>⟨_,H,I',h⟩) hf)
noncomputable def AC:TGs:=λvs σ H Q=>vs=[]/\Q σ H
noncomputable def kU(t:TG)(u:TGs):TGs:=λvs σ H Q=>∃v r,vs=v::r/\t v σ H λσ' H'=>u r σ' H' Q
theorem vv:PGs X [] AC:=by
 intro pins s σ H vs us Q I r h;obtain⟨e,h⟩:=h;subst e;cases r;exact assignInOrder_nil ⟨σ,H,I,h⟩
theorem rd{e:Expr}{es:List Expr}{t:TG}{u:TGs}(h1:PG X e t)(h2:PGs X es u)
  (hs:(OE (e::es) X.env).map (·.2)=assign e X.env::(OE es X.env).map (·.2):=by rfl):PGs X (e::es) (kU t u):=by
 intro pins s σ H vs us Q I r h;obtain⟨v,vr,e1,h⟩:=h;subst e1;cases r with
 | cons r rr=>
  rw[hs];refine assignInOrder_cons (thn (h1 pins s σ H _ _ _ I r h) λ_ s1 ⟨σ1,H1,I1,q1⟩=>?_);exact h2 pins s1 σ1 H1 _ _ Q I1 rr q1
def AD(K:Ec)(n:Nat)(t:TGs):TG:=λv σ H Q=>∃a xs,v=.ref a/\SqT K H a xs/\xs.length=n/\t xs σ H Q
theorem yr{es:List Expr}{k:Nat}{t:TGs}{n:Nat}(hc:X.calm=true)(h:PGs X es t)
  (hn:(OE es X.env).length=n:=by rfl) (hst:(OE es X.env).findIdx? (·.1)=none:=by rfl):PG X (.Tuple es k pos) (AD X.K n t):=by
 intro pins s σ H v u Q I r hw;obtain⟨a,xs,e1,hq,hl,hw⟩:=hw;subst e1;cases r;obtain⟨its,rv,ht,hz⟩:=I.tuple hq;refine assign_Tuple_tuple (I.ok.hd hc) ht (by simp[hn,<-hl,rv.length]) hst λh' hx=>?_
 have I1:Inv X pins σ H { s with heap:=h' }:=I.kept (t':=s.toks) λb o e=>hx b o (EK (Ew e)) e
 exact h pins _ σ H xs _ Q I1 (by simpa using rv) hw
def Bc(to ti:TE)(t:vq):TG:=λv σ H Q=>to σ H λo H1=>ti σ H1 λi H2=>t o i v H2 λH3=>Q σ H3
theorem yt{o i:Expr}{to ti:TE}{t:vq}(ho:PE X o to)(hi:PE X i ti)(hs:Bb X t)
  (ha:∀v,assign (.Subscript o i pos) X.env v=(do
   let ov <-OF [v] (eval o X.env)
   let iv <-OF [v,ov] (eval i X.env)
   standAt pos
   OF [v,ov,iv] (setItem ov iv v)
   release [v,ov,iv] []):=by intro _;rfl):PG X (.Subscript o i pos) (Bc to ti t):=by
 intro pins s σ H v u Q I r h;rw[ha];refine On (OC (thn (ho pins s σ H _ I h) λov s1 ⟨x,H1,I1,r1,q1⟩=>?_));refine On (OC (thn (hi pins s1 σ H1 _ I1 q1) λiv s2 ⟨y,H2,I2,r2,q2⟩=>?_));refine On (ON (On (OC (thn (hs pins s2 σ H2 x y v ov iv u _ I2 r1 r2 r q2) λ_ s3 ⟨H3,I3,q3⟩=>?_))));exact wpAny_release ⟨σ,H3,I3,q3⟩
def nj(te:TE)(g:TG):TS:=λD σ H=>te σ H λx H1=>g x σ H1 D.nx
theorem oq{tg e:Expr}{te:TE}{g:TG}(he:PE X e te)(hg:PG X tg g)(hs:OO [tg] e pos.line X.env=pure false:=by rfl)(hw:OP [tg] e X.env=pure none:=by rfl)
  (h1:(OE [tg] X.env).map (·.2)=[assign tg X.env]:=by rfl):PS X (.Assign [tg] e pos) (nj te g):=by
 intro pins s σ H D I h;refine wpAny_Assign_stores (thn (he pins s σ H _ I h) λv s1 ⟨x,H1,I1,r1,q1⟩=>?_) hs hw;rw[h1];exact thn (hg pins s1 σ H1 x v _ I1 r1 q1) λ_ s2 q=>q
theorem yu{i:Nat}{x:Str}{e:Expr}{te:TE}{pos':Pos}(hN:X.N.Nodup)(hi:X.N[i]? = some x)(hx:Loc X.env.scope x)(he:PE X e te)(hs:OL e (some (.Name x pos')) pos.line X.env=pure false:=by rfl)(hf:X.fn x=true\/X.env.scope.names.lookup x=some .local:=by first|exact .inl rfl|exact .inr rfl|assumption):
  PS X (.Assign [.Name x pos'] e pos) (nj te (dm i)):=by
 intro pins s σ H D I h;refine wpAny_Assign_Name (thn (he pins s σ H _ I h) λv s1 ⟨y,H1,I1,r1,q1⟩=>?_) hs;exact dE I1 hN hi hx r1 (λs2 I2=>⟨_,H1,I2,q1⟩) hf
def Bd(i j:Nat)(ta:TA):TS:=λD σ H=>ta σ H λvs H1=>∃v w,vs=[v,w]/\D.nx ((σ.set i (some v)).set j (some w)) H1
theorem yw{i j:Nat}{x y:Str}{a b:Expr}{ta:TA}{px py pt:Pos}{kt k2 pt2}(hc:X.calm=true)(hN:X.N.Nodup)(hi:X.N[i]? = some x)(hj:X.N[j]? = some y)(hij:i≠j)
  (hx:X.env.scope.names.lookup x=some .local) (hy:X.env.scope.names.lookup y=some .local) (ha:PA X [a,b] ta)
  (hw:OP [.Tuple [.Name x px,.Name y py] kt pt] (.Tuple [a,b] k2 pt2) X.env=pure (some [x,y]))
  (hs:OO [.Tuple [.Name x px,.Name y py] kt pt] (.Tuple [a,b] k2 pt2) pos.line X.env=pure false:=by rfl) :
  PS X (.Assign [.Tuple [.Name x px,.Name y py] kt pt] (.Tuple [a,b] k2 pt2) pos) (Bd i j ta):=by
 intro pins s σ H D I h;rw[exec_Assign_arm];refine On (ON ?_);rw[hs];refine On (Oq ?_);rw[if_neg (by decide)];refine On (Tuple_ (thn (ha _ pins s σ H _ I h) λus s1 ⟨vs,H1,I1,r1,q1⟩=>?_));obtain⟨v,w,e1,q1⟩:=q1;subst e1;obtain⟨u1,u2,rfl,rv,rw'⟩:∃u1 u2,us=[u1,u2]/\RelV v u1/\RelV w u2:=by
  cases r1 with
  | cons p q=>
   cases q with
   | cons p' q'=>
    cases q';exact⟨_,_,rfl,p,p'⟩
 refine wpAny_newObj_type ?_ (by show 2<=Oo;decide);have I2:Inv X pins σ H1 { s1 with heap:=s1.heap.push { cls:=.type "tuple",data:=.seq [u1,u2].toArray } }:=I1.kept (t':=s1.toks) λb o e=>El _ e
 rw[hw];refine On (Oq ?_);show wpAny (model X.prog X.w) X.A (do rule "assign.swapped-stores";let items <-unpackItems (.ref s1.heap.objs.size) 2 none;assignInOrder [λv=>bindName X.env y v,λv=>bindName X.env x v] items.reverse;pure NN) _ _ _
 refine On (wpAny_rule (On (unpackItems_tuple (items:=#[u1,u2]) (I.ok.hd hc) (NO s1.heap _) λh' hx'=>?_)));have I3:=I2.kept (h':=h') (t':=s1.toks) λb o e=>hx' b o (EK (Ew e)) e
 show wpAny _ _ (assignInOrder [λv=>bindName X.env y v,λv=>bindName X.env x v] [u2,u1] >>= λ_=>pure NN) _ _ _
 refine On (assignInOrder_cons (wpAny_bindName (dE I3 hN hj (.inl hy) rw' (λs2 I4=>?_) (.inr hy))));refine assignInOrder_cons (wpAny_bindName (dE I4 hN hi (.inl hx) rv (λs3 I5=>assignInOrder_nil (Oq ?_)) (.inr hx)));rw[List.set_comm _ _ (E2 hij)]at I5;exact⟨_,H1,I5,q1⟩
def Be(i:Nat)(te:TE)(ti:TIp):TS:=λD σ H=>∃x,σ[i]? = some (some x)/\te σ H λy H1=>ti x y H1 λz H2=>D.nx (σ.set i (some z)) H2
theorem yx{i:Nat}{x:Str}{e:Expr}{te:TE}{op:Operator}{ti:TIp}{pos':Pos}(hN:X.N.Nodup)(hi:X.N[i]? = some x)(hx:Loc X.env.scope x)(he:PE X e te)(ho:PIp X op ti)(hf:X.fn x=true\/X.env.scope.names.lookup x=some .local:=by first|exact .inl rfl|exact .inr rfl|assumption):
  PS X (.AugAssign (.Name x pos') op e pos) (Be i te ti):=by
 intro pins s σ H D I h;obtain⟨v,e1,h⟩:=h;obtain⟨m,hn,hl⟩:=I.loc;have vis:Vis X.env.scope x:=by rcases hx with k|k;exact .inl k;exact .inr (.inl k)
 obtain⟨u,r,l⟩:=hl i x v hi e1 vis;refine wpAny_AugAssign_Name ?_;have go:wpAny (model X.prog X.w) X.A (eval e X.env) (λw s₂=>wpAny (model X.prog X.w) X.A (OS op u w) (λr s₃=>wpAny (model X.prog X.w) X.A (storeName X.env x r) (λ_=>SP X pins D .next) X.xe s₃) X.xe s₂) X.xe s:=by
  refine thn (he pins s σ H _ I h) λw s1 ⟨y,H1,I1,r1,q1⟩=>?_
  refine thn (ho pins s1 σ H1 v y u w _ I1 r r1 q1) λz s2 ⟨zv,H2,I2,r2,q2⟩=>?_
  exact dE I2 hN hi hx r2 (λs3 I3=>⟨_,H2,I3,q2⟩) hf
 rcases l with⟨hk,hm⟩|⟨hk,c,hc,hcell⟩
 ·exact wpAny_loadName_local I.ok.kind hk hn hm go
 ·rcases hk with hk|hk
  ·exact wpAny_loadName_cell I.ok.kind hk hc hcell go
  ·rcases hx with k|k
   ·have:X.env.scope.names.lookup x=some .free:=hk
    rw[k]at this;cases this
   ·have:X.env.scope.names.lookup x=some .free:=hk
    rw[k]at this;cases this
def rf(to ti te:TE)(tget:V->V->Hp->VK->Prop)(tip:TIp)(tset:vq):TS:=λD σ H=>to σ H λo H1=>ti σ H1 λi H2=>tget o i H2 λx H3=>te σ H3 λy H4=>tip x y H4 λz H5=>tset o i z H5 λH6=>D.nx σ H6
def Bf(X:Cx)(t:V->V->Hp->VK->Prop):Prop:=
 ∀(pins:List (Addr×Obj)) (s:Shared) (σ:St) (H:Hp) (o i:V) (ov iv:Value) (Q:VK),Inv X pins σ H s->RelV o ov->RelV i iv->t o i H Q->
  wpAny (model X.prog X.w) X.A (getItem ov iv) (EP X pins σ Q) X.xe s
theorem ot{o i e:Expr}{to ti te:TE}{tget:V->V->Hp->VK->Prop}{tip:TIp}{tset:vq}{op:Operator}{tpos:Pos}(ho:PE X o to)(hi:PE X i ti)(hg:Bf X tget)(he:PE X e te)(hp:PIp X op tip)(hs:Bb X tset)
  (ha:∀ov iv new,augStore i ov iv new=(do OF [new,ov,iv] (setItem ov iv new);release [new,ov,iv] [];pure .next):=by intros;rfl):PS X (.AugAssign (.Subscript o i tpos) op e pos) (rf to ti te tget tip tset):=by
 intro pins s σ H D I h;refine wpAny_AugAssign_SubscriptAny (thn (ho pins s σ H _ I h) λov s1 ⟨x1,H1,I1,r1,q1⟩=>?_) ha;refine thn (hi pins s1 σ H1 _ I1 q1) λiv s2 ⟨x2,H2,I2,r2,q2⟩=>?_
 refine thn (hg pins s2 σ H2 x1 x2 ov iv _ I2 r1 r2 q2) λold s3 ⟨x3,H3,I3,r3,q3⟩=>?_
 refine thn (he pins s3 σ H3 _ I3 q3) λv s4 ⟨x4,H4,I4,r4,q4⟩=>?_
 refine thn (hp pins s4 σ H4 x3 x4 old v _ I4 r3 r4 q4) λnew s5 ⟨x5,H5,I5,r5,q5⟩=>?_
 exact thn (hs pins s5 σ H5 x1 x2 x5 ov iv new _ I5 r1 r2 r5 q5) λ_ s6 ⟨H6,I6,q6⟩=>⟨σ,H6,I6,q6⟩
noncomputable def ipI(f:Int->Int->Int):TIp:=λx y H Q=>∃i j,x=.int i/\y=.int j/\Q (.int (f i j)) H
theorem ui:PIp X .Add (ipI λi j=>i+j):=by
 intro pins s σ H x y v u Q I r1 r2 h;obtain⟨i,j,e1,e2,q⟩:=h;subst e1;subst e2;obtain⟨t,rfl⟩:=r1;obtain⟨t',rfl⟩:=r2;exact iadd_int ⟨.int _,H,I.tok _,⟨_,rfl⟩,q⟩
end
section
variable{X:Cx}{pos:Pos}
def uj(c:TT)(tb:TS):TS:=λD σ H=>∃W:Nat->St->Hp->Prop,(∃m,W m σ H)/\∀m σ H,W m σ H->
 c σ H λb H1=>if b=true then ∃N:St->Hp->Prop,(∀σ' H',N σ' H'->∃m',m'<m/\W m' σ' H')/\tb { D with nx:=N,ct:=N,bk:=D.nx } σ H1 else D.nx σ H1
theorem rg{c:Expr}{body:List Stmt}{tc:TT}{tb:TS}(hp:PassesOwn (model X.prog X.w) X.A X.env X.xe)(hc:PT X c tc)(hb:PSs X body tb):PS X (.While c body [] pos) (uj tc tb):=by
 intro pins s σ H D I h;obtain⟨W,⟨m0,w0⟩,turn⟩:=h;refine wpAny_While (codeAny_whileLoop (λn s'=>∃σ' H',Inv X pins σ' H' s'/\W n σ' H') ?_ m0 ⟨σ,H,I,w0⟩);rintro n s1 ⟨σ1,H1,I1,w1⟩;refine OI hp (thn (hc pins s1 σ1 H1 _ I1 (turn n σ1 H1 w1)) λb s2 ⟨H2,I2,q2⟩=>?_);cases b with
 | true=>
  obtain⟨N,hN,q2⟩:=q2;rw[if_pos rfl];refine OI hp (thn (hb pins s2 σ1 H2 _ I2 q2) λf s3 q3=>?_);cases f with
  | next=>
   obtain⟨σ3,H3,I3,n3⟩:=q3;obtain⟨m',hm,w3⟩:=hN σ3 H3 n3;exact⟨m',hm,σ3,H3,I3,w3⟩
  | cont=>
   obtain⟨σ3,H3,I3,n3⟩:=q3;obtain⟨m',hm,w3⟩:=hN σ3 H3 n3;exact⟨m',hm,σ3,H3,I3,w3⟩
  | brk=>exact q3
  | ret v=>exact q3
 | false=>
  rw[if_neg ED];exact wpAny_execs_nil ⟨σ1,H2,I2,q2⟩
end
structure It where
 go:Nat->Hp->Prop
 yld:Nat->Hp->V->Hp->Prop
 stop:Nat->Hp->Prop
def qS(X:Cx)(pins:List (Addr×Obj))(H:Hp)(b:Addr):Prop:=
 H b=none/\b≠X.env.locals/\b∉X.fs/\(b∈X.ex\/X.s₀.heap.objs.size<=b)/\(∀x c,X.env.cells.lookup x=some c->c≠b)/\∀p∈X.pn++pins,p.1≠b
theorem Inv.fpOk{X:Cx}{pins:List (Addr×Obj)}{σ:St}{H H':Hp}{s:Shared}{b:Addr}(I:Inv X pins σ H s)(hb:s.heap.objs.size<=b)(hn:H' b=none):qS X pins H' b:=by
 refine⟨hn,Hz (EN I.lt hb),I.nofs hb,.inr (E5 I.sz hb),λx c e z=>?_,λp hp z=>?_⟩
 ·obtain⟨v,q⟩:=I.cell x c e
  exact absurd (EN q.lt (by rw[z];exact hb)) (FC _)
 ·exact absurd (EN (Ew (I.pin p hp).1) (by rw[z];exact hb)) (FC _)
structure Turn (P:Program) (w:World) (K:Ec) (tg:Expr) (J:It) (fp:List Addr) (it:Addr) (tn:Nat->Heap->Prop):Prop where
 mem:it∈fp
 obj:∀i h,tn i h->∀b∈fp,∃o,h.get? b=some o/\∀v,o.data≠.cell v
 keep:∀i h h',tn i h->(∀b∈fp,∀o,h.get? b=some o->h'.get? b=some o)->tn i h'
 item:∀(X:Cx),X.prog=P->X.w=w->X.K=K->X.calm=true->∀(i:Nat) (pins:List (Addr×Obj)) (s:Shared) (σ:St) (H:Hp) (E:Value->Shared->Prop),Inv X pins σ H s->(∀b∈fp,qS X pins H b)->tn i s.heap->J.go i H->
  wpAny (model P w) X.A (pyNext (.ref it)) (λr s1=>∃u,r=some u/\
   wpAny (model P w) X.A (letOwnedTupleGo tg (.ref it) u) (λ_ s2=>∃x H',Inv X pins σ H' s2/\RelV x u/\J.yld i H x H'/\tn (i+1) s2.heap/\∀b∈fp,H' b=none) E s1) E s
 done:∀(X:Cx),X.prog=P->X.w=w->X.K=K->X.calm=true->∀(i:Nat) (pins:List (Addr×Obj)) (s:Shared) (σ:St) (H:Hp) (E:Value->Shared->Prop),Inv X pins σ H s->(∀b∈fp,qS X pins H b)->tn i s.heap->J.stop i H->
  wpAny (model P w) X.A (pyNext (.ref it)) (λr s1=>r=none/\Inv X pins σ H s1) E s
 self:∀(A:Around) (i:Nat) (s:Shared) (Q:Value->Shared->Prop) (E:Value->Shared->Prop),tn i s.heap->Q (.ref it) s->wpAny (model P w) A (pyIter (.ref it)) Q E s
noncomputable abbrev TI:=St->Hp->(It->Hp->Prop)->Prop
def PIE(X:Cx)(pins:List (Addr×Obj))(σ:St)(tg:Expr)(R:It->Hp->Prop)(itv:Value)(s2:Shared):Prop:=
 ∃(it:Addr) (fp:List Addr) (tn:Nat->Heap->Prop) (J:It) (H':Hp),itv=.ref it/\Inv X pins σ H' s2/\Turn X.prog X.w X.K tg J fp it tn/\tn 0 s2.heap/\(∀b∈fp,qS X pins H' b)/\R J H'
def PI(X:Cx)(tg iter:Expr)(wi:TI):Prop:=
 ∀(pins:List (Addr×Obj)) (s:Shared) (σ:St) (H:Hp) (R:It->Hp->Prop),Inv X pins σ H s->wi σ H R->
  wpAny (model X.prog X.w) X.A (eval iter X.env) (λv s1=>wpAny (model X.prog X.w) X.A (pyIter v) (PIE X pins σ tg R) X.xe s1) X.xe s
theorem nk{M:Model}{A:Around}{E:Value->Shared->Prop}{s:Shared}{tg:Expr}{it:Addr}{u:Value}{o:Obj}{n:String}{vs:Array Value}{Q:Unit->Shared->Prop}(ho:s.heap.get? it=some o)(hc:o.cls=.type n)(hd:o.data=.fields vs)
    (hn:["enumerate","zip","dict_itemiterator","dict_reverseitemiterator","odict_iterator","itertools.zip_longest","itertools.pairwise"].contains n=false) (hQ:Q () s):wpAny M A (letOwnedTupleGo tg (.ref it) u) Q E s:=by
  unfold letOwnedTupleGo;cases tg<;>first
    | exact Oq hQ
    | (cases u<;>first
        | exact Oq hQ
        | (refine On (wpAny_load ho ?_)
           rw[hc,hd];show wpAny M A (if(["enumerate","zip","dict_itemiterator","dict_reverseitemiterator","odict_iterator","itertools.zip_longest","itertools.pairwise"].contains n && vs[0]? == some (rawInt _))=true then _ else _) Q E s
           rw[if_neg (by intro h;rw[hn,Bool.false_and]at h;cases h)];exact Oq hQ))
def Itl(K:Ec)(a:Addr):It:=
 ⟨λi H=>∃xs x,SqL K H a xs/\xs[i]? = some x,λi H x H'=>H'=H/\∀xs,SqL K H a xs->xs[i]? = some x,λi H=>∃xs,SqL K H a xs/\xs.length<=i⟩
def Itt(K:Ec)(a:Addr):It:=
 ⟨λi H=>∃xs x,SqT K H a xs/\xs[i]? = some x,λi H x H'=>H'=H/\∀xs,SqT K H a xs->xs[i]? = some x,λi H=>∃xs,SqT K H a xs/\xs.length<=i⟩
def Itr(lo:Int)(n:Nat):It:=⟨λi _=>i<n,λi H x H'=>H'=H/\x=.int (lo+i),λi _=>n<=i⟩
theorem ou{P:Program}{w:World}{K:Ec}{tg:Expr}(a it:Addr):Turn P w K tg (Itl K a) [it] it (λi h=>h.IsListIter it a i) where
 mem:=by simp
 obj:=λi h st b hb=>by
  have e:b=it:=by simpa using hb
  subst e;obtain⟨o,e,c,d⟩:=st;exact⟨o,e,λv z=>by rw[d]at z;cases z⟩
 keep:=λi h h' st k=>st.at λo e=>k it (by simp) o e
 item:=by
  intro X hP hw hK hc i pins s σ H E I hf st hg;subst hP hw hK;obtain⟨xs,x,hq,hx⟩:=hg;obtain⟨its,rv,p,hz⟩:=I.list hq;obtain⟨u,hu,ru⟩:=rv.get hx;obtain⟨f0,f1,f2,f3,f4,f5⟩:=hf it (by simp);refine wpAny_pyNext_list_item st p.isList (x:=u) (by simpa using hu) λh' st' sb=>?_
  have I1:Inv X pins σ H { s with heap:=h' }:=I.turned (t':=s.toks) (λb o hb e=>(sb.2 b hb).trans e) f0 f1 f3 f4 f5;obtain⟨o,e,c,d⟩:=id st';exact⟨u,rfl,nk (s:={ s with heap:=h' }) e c d (by decide) ⟨x,H,I1,ru,⟨rfl,λys hy=>by rw[I.list_inj hy hq];exact hx⟩,st',λb hb=>(hf b hb).1⟩⟩
 done:=by
  intro X hP hw hK hc i pins s σ H E I hf st hg;subst hP hw hK;obtain⟨xs,hq,hx⟩:=hg;obtain⟨its,rv,p,hz⟩:=I.list hq;obtain⟨f0,f1,f2,f3,f4,f5⟩:=hf it (by simp);have hl:=rv.length;exact wpAny_pyNext_list_end (I.ok.hd hc) st p.isList (by simp;lia) λh' eb=>⟨rfl,I.turned (t':=s.toks) (λb o hb e=>eb b o hb e) f0 f1 f3 f4 f5⟩
 self:=λ_ _ _ _ _ st h=>wpAny_pyIter_listiter st h
theorem nq{P:Program}{w:World}{K:Ec}{tg:Expr}(a it:Addr):Turn P w K tg (Itt K a) [it] it (λi h=>h.IsTupleIter it a i) where
 mem:=by simp
 obj:=λi h st b hb=>by
  have e:b=it:=by simpa using hb
  subst e;obtain⟨o,e,c,d⟩:=st;exact⟨o,e,λv z=>by rw[d]at z;cases z⟩
 keep:=λi h h' st k=>st.at λo e=>k it (by simp) o e
 item:=by
  intro X hP hw hK hc i pins s σ H E I hf st hg;subst hP hw hK;obtain⟨xs,x,hq,hx⟩:=hg;obtain⟨its,rv,p,hz⟩:=I.tuple hq;obtain⟨u,hu,ru⟩:=rv.get hx;obtain⟨f0,f1,f2,f3,f4,f5⟩:=hf it (by simp);refine wpAny_pyNext_tuple_item st (show s.heap.IsTuple a its.toArray from p) (x:=u) (by simpa using hu) λh' st' sb=>?_
  have I1:Inv X pins σ H { s with heap:=h' }:=I.turned (t':=s.toks) (λb o hb e=>(sb.2 b hb).trans e) f0 f1 f3 f4 f5;obtain⟨o,e,c,d⟩:=id st';exact⟨u,rfl,nk (s:={ s with heap:=h' }) e c d (by decide) ⟨x,H,I1,ru,⟨rfl,λys hy=>by rw[I.tuple_inj hy hq];exact hx⟩,st',λb hb=>(hf b hb).1⟩⟩
 done:=by
  intro X hP hw hK hc i pins s σ H E I hf st hg;subst hP hw hK;obtain⟨xs,hq,hx⟩:=hg;obtain⟨its,rv,p,hz⟩:=I.tuple hq;obtain⟨f0,f1,f2,f3,f4,f5⟩:=hf it (by simp);have hl:=rv.length;exact wpAny_pyNext_tuple_end (I.ok.hd hc) st (show s.heap.IsTuple a its.toArray from p) (by simp;lia) λh' eb=>⟨rfl,I.turned (t':=s.toks) (λb o hb e=>eb b o hb e) f0 f1 f3 f4 f5⟩
 self:=λ_ _ _ _ _ st h=>wpAny_pyIter_tupleiter st h
theorem nv{P:Program}{w:World}{K:Ec}{tg:Expr}(it:Addr)(lo:Int)(n:Nat):Turn P w K tg (Itr lo n) [it] it (λi h=>IsRangeIter h it (lo+(i:Nat)*1) ((n:Int) - (i:Nat)) 1) where
 mem:=by simp
 obj:=λi h st b hb=>by
  have e:b=it:=by simpa using hb
  subst e;exact⟨_,st,λv z=>by
   have z':K2 _=Mh v:=z;cases z'⟩
 keep:=λi h h' st k=>k it (by simp) _ st
 item:=by
  intro X hP hw hK hc i pins s σ H E I hf st hg;subst hP hw hK;obtain⟨f0,f1,f2,f3,f4,f5⟩:=hf it (by simp);have W:=K3 (prog:=X.prog) (w:=X.w) (I.ok.hd hc) it lo 1 n;refine W.item i s _ _ hg st λv h' tk hv st' kk=>?_
  obtain⟨t,rfl⟩:=hv;have I1:Inv X pins σ H { s with heap:=h',toks:=tk }:=I.turned (λb o hb e=>kk b o (by simpa using hb) e) f0 f1 f3 f4 f5;refine⟨_,rfl,nk (s:={ s with heap:=h',toks:=tk }) (n:="range_iterator") st' rfl rfl (by decide) ⟨.int (lo+i),H,I1,⟨t,?_⟩,⟨rfl,rfl⟩,st',λb hb=>(hf b hb).1⟩⟩;rw[M9]
 done:=by
  intro X hP hw hK hc i pins s σ H E I hf st hg;subst hP hw hK;obtain⟨f0,f1,f2,f3,f4,f5⟩:=hf it (by simp);exact wpAny_pyNext_range_end (I.ok.hd hc) st (by have:n<=i:=hg;lia) λh' eb=>⟨rfl,I.turned (t':=s.toks) (λb o hb e=>eb b o hb e) f0 f1 f3 f4 f5⟩
 self:=λ_ _ _ _ _ st h=>wpAny_pyIter_rangeiter st h
section
variable{X:Cx}{tg:Expr}
def vx(K:Ec)(tl:TE):TI:=λσ H R=>tl σ H λx H1=>∃a,x=.ref a/\(∃xs,SqL K H1 a xs)/\R (Itl K a) H1
def Bg(K:Ec)(tl:TE):TI:=λσ H R=>tl σ H λx H1=>∃a,x=.ref a/\(∃xs,SqT K H1 a xs)/\R (Itt K a) H1
theorem vy{l:Expr}{tl:TE}(hl:PE X l tl):PI X tg l (vx X.K tl):=by
 intro pins s σ H R I h;refine thn (hl pins s σ H _ I h) λv s1 ⟨x,H1,I1,r1,q1⟩=>?_
 obtain⟨a,e,⟨xs,hq⟩,q⟩:=q1;subst e;cases r1;obtain⟨its,rv,p,hz⟩:=I1.list hq;refine wpAny_pyIter_list p.isList ?_;refine⟨s1.heap.objs.size,[s1.heap.objs.size],_,_,H1,rfl,I1.kept (t':=s1.toks) λb o e=>El _ e,ou a _,⟨_,EH _ rfl,rfl,rfl⟩,λb hb=>?_,q⟩;have e:b=s1.heap.objs.size:=by simpa using hb
 subst e;exact I1.fpOk (Ed _) (I1.hok.fresh (Ed _))
theorem yy{l:Expr}{tl:TE}(hl:PE X l tl):PI X tg l (Bg X.K tl):=by
 intro pins s σ H R I h;refine thn (hl pins s σ H _ I h) λv s1 ⟨x,H1,I1,r1,q1⟩=>?_
 obtain⟨a,e,⟨xs,hq⟩,q⟩:=q1;subst e;cases r1;obtain⟨its,rv,p,hz⟩:=I1.tuple hq;refine wpAny_pyIter_tuple (show s1.heap.IsTuple a its.toArray from p) ?_;refine⟨s1.heap.objs.size,[s1.heap.objs.size],_,_,H1,rfl,I1.kept (t':=s1.toks) λb o e=>El _ e,nq a _,⟨_,EH _ rfl,rfl,rfl⟩,λb hb=>?_,q⟩;have e:b=s1.heap.objs.size:=by simpa using hb
 subst e;exact I1.fpOk (Ed _) (I1.hok.fresh (Ed _))
theorem rh{pins:List (Addr×Obj)}{σ:St}{H:Hp}{s:Shared}{R:It->Hp->Prop}{E:Value->Shared->Prop}{lo hi:Int}{t u v:Tok}{tk:Nat}(I:Inv X pins σ H s)(h1:-(2 ^ 62)<=lo)(h2:lo<2 ^ 62)(h3:-(2 ^ 62)<=hi)(h4:hi<2 ^ 62)
  (q:R (Itr lo (hi - lo).toNat) H):wpAny (model X.prog X.w) X.A (pyIter (.ref s.heap.objs.size)) (PIE X pins σ tg R) E { s with heap:=s.heap.push { cls:=.type "range",data:=.fields #[.int lo t,.int hi u,.int 1 v] },toks:=tk }:=by
 refine wpAny_pyIter_range (JC ..) (small_one h1 h2 h3 h4) ?_;have I1:Inv X pins σ H { s with heap:=s.heap.push { cls:=.type "range",data:=.fields #[.int lo t,.int hi u,.int 1 v] },toks:=tk }:=I.kept λb o e=>El _ e
 refine⟨(s.heap.push { cls:=.type "range",data:=.fields #[.int lo t,.int hi u,.int 1 v] }).objs.size,[(s.heap.push { cls:=.type "range",data:=.fields #[.int lo t,.int hi u,.int 1 v] }).objs.size],_,_,H,rfl,
  I1.kept (t':=tk) λb o e=>El _ e,nv _ lo (hi - lo).toNat,?_,λb hb=>?_,q⟩
 ·have e1:lo+((0:Nat):Int)*1=lo:=by simp
  have e2:(((hi - lo).toNat:Nat):Int) - ((0:Nat):Int)=Fz lo hi 1:=by rw[rangeSize_one];split<;>lia
  show IsRangeIter _ _ (lo+((0:Nat):Int)*1) ((((hi - lo).toNat:Nat):Int) - ((0:Nat):Int)) 1
  rw[e1,e2];exact EH _ rfl
 ·have e:b=(s.heap.push { cls:=.type "range",data:=.fields #[.int lo t,.int hi u,.int 1 v] }).objs.size:=by simpa using hb
  subst e;exact I1.fpOk (Ed _) (I1.hok.fresh (Ed _))
def vz(ta:TA):TI:=λσ H R=>ta σ H λvs H1=>∃j:Int,vs=[.int j]/\-(2 ^ 62)<=j/\j<2 ^ 62/\R (Itr 0 j.toNat) H1
theorem ow {a:Expr}{ta:TA}{p pos:Pos}(hg:Gl X "range") (hm:X.mg "range" = none) (ha:PA X [a] ta) (hs:Ot [a] X.env=[(false,eval a X.env)]:=by rfl):PI X tg (.Call (.Name "range" p) [a] [] pos) (vz ta):=by
 intro pins s σ H R I h;refine Call_ (dr I hg hm boot_range (Fd (thn (ha pos pins s σ H _ I h) λus s1 ⟨vs,H1,I1,r1,q1⟩=>?_) hs rfl));obtain⟨j,e,q1,q2,q⟩:=q1;subst e;cases r1 with
 | cons r rr=>
  cases rr;obtain⟨t,rfl⟩:=r;exact call_range_1 (rh I1 ⋯ ⋯ q1 q2 (by simpa using q))
def Bh(wi:TI)(g:TG)(tb:TS):TS:=λD σ H=>wi σ H λJ H1=>∃W:Nat->Nat->St->Hp->Prop,(∃m,W 0 m σ H1)/\∀i m σ H,W i m σ H->
 (J.stop i H/\D.nx σ H)\/(J.go i H/\∃N:St->Hp->Prop,(∀σ' H',N σ' H'->∃m',m'<m/\W (i+1) m' σ' H')/\∀x H',J.yld i H x H'->g x σ H' λσ2 H2=>tb { D with nx:=N,ct:=N,bk:=D.nx } σ2 H2)
noncomputable def l8(fp:List Addr)(h:Heap):List (Addr×Obj):=fp.filterMap λb=>(h.get? b).map λo=>(b,o)
theorem dF{fp:List Addr}{h:Heap}{b:Addr}{o:Obj}(hb:b∈fp)(e:h.get? b=some o):(b,o)∈l8 fp h:=Km.mpr ⟨b,hb,by rw[e];rfl⟩
theorem ox{fp:List Addr}{h:Heap}{p:Addr×Obj}(hp:p∈l8 fp h):p.1∈fp/\h.get? p.1=some p.2:=by
 obtain⟨b,hb,e⟩:=Km.mp hp;cases q:h.get? b with
 | none=>rw[q]at e;cases e
 | some o=>
  rw[q]at e;have e':(b,o)=p:=EE e;subst e';exact⟨hb,q⟩
theorem Inv.pinned{pins:List (Addr×Obj)}{σ:St}{H:Hp}{s:Shared}{fp:List Addr}(I:Inv X pins σ H s)(hf:∀b∈fp,qS X pins H b)(ho:∀b∈fp,∃o,s.heap.get? b=some o/\∀v,o.data≠.cell v):Inv X (pins++l8 fp s.heap) σ H s:=
 I.pins_of λp hp=>(ET.mp hp).elim (λz=>I.pin p (EO _ z)) λz=>by
  obtain⟨hb,e⟩:=ox z;obtain⟨f0,f1,f2,_⟩:=hf p.1 hb;obtain⟨o,e',d⟩:=ho p.1 hb;rw[e]at e';cases e';exact⟨e,f0,f1,f2,d⟩
theorem Inv.unpinned{pins pl:List (Addr×Obj)}{σ:St}{H:Hp}{s:Shared}(I:Inv X (pins++pl) σ H s):Inv X pins σ H s:=I.pins_of λp hp=>I.pin p (EO _ (FB _ hp))
theorem yz{iter:Expr}{body:List Stmt}{wi:TI}{g:TG}{tb:TS}{pos:Pos}(hp:PassesOwn (model X.prog X.w) X.A X.env X.xe)(hc:X.calm=true)(hi:PI X tg iter wi)(hg:PG X tg g)(hb:PSs X body tb)
  (hs:∀x,Ov iter X.env x=pure x:=by intro _;rfl):PS X (.For tg iter body [] pos) (Bh wi g tb):=by
 intro pins s σ H D I h;refine wpAny_For (thn (hi pins s σ H _ I h) λv s1 h1=>thn h1 λitv s2 h2=>?_) hs;obtain⟨it,fp,tn,J,H2,e,I2,T,st2,f2,W,⟨m0,w0⟩,turn⟩:=h2;subst e
 -- what stays true of the iterator's objects through the loop
 have stat:∀{H':Hp},(∀b∈fp,H' b=none)->∀b∈fp,qS X pins H' b:=λhn b hb=>⟨hn b hb,(f2 b hb).2⟩
 refine codeAny_forLoop_any (λn s'=>∃i σ' H',Inv X pins σ' H' s'/\tn i s'.heap/\(∀b∈fp,H' b=none)/\W i n σ' H') ?_ m0 ⟨0,σ,H2,I2,st2,λb hb=>(f2 b hb).1,w0⟩;rintro n s3 ⟨i,σ3,H3,I3,st3,fr3,w3⟩;rcases turn i n σ3 H3 w3 with⟨stop,qn⟩|⟨go,N,hN,step⟩
 ·refine OI hp (thn (T.done X rfl rfl rfl hc i pins s3 σ3 H3 X.xe I3 (stat fr3) st3 stop) λr s4 ⟨hr,I4⟩=>?_)
  subst hr;exact wpAny_execs_nil ⟨σ3,H3,I4,qn⟩
 ·refine OI hp (thn (T.item X rfl rfl rfl hc i pins s3 σ3 H3 X.xe I3 (stat fr3) st3 go) λr s4 ⟨u,hr,h4⟩=>?_)
  subst hr;refine OI hp (thn h4 λ_ s5 ⟨x,H5,I5,r5,y5,st5,fr5⟩=>?_);have I5':=I5.pinned (stat fr5) (T.obj _ _ st5);refine OI hp (thn (hg _ s5 σ3 H5 x u _ I5' r5 (step x H5 y5)) λ_ s6 ⟨σ6,H6,I6,q6⟩=>?_);refine OI hp (thn (hb _ s6 σ6 H6 _ I6 q6) λf s7 q7=>?_);have again:∀{σ7:St}{H7:Hp},Inv X (pins++l8 fp s5.heap) σ7 H7 s7->N σ7 H7->∃m,m<n/\∃i σ' H',Inv X pins σ' H' s7/\tn i s7.heap/\(∀b∈fp,H' b=none)/\W i m σ' H':=λ{σ7 H7} I7 n7=>by
   obtain⟨m',hm,w7⟩:=hN σ7 H7 n7;refine⟨m',hm,i+1,σ7,H7,I7.unpinned,T.keep _ _ _ st5 λb hb o e=>(I7.pin (b,o) (EO _ (EO _ (dF hb e)))).1,λb hb=>?_,w7⟩;obtain⟨o,e,d⟩:=T.obj _ _ st5 b hb;exact(I7.pin (b,o) (EO _ (EO _ (dF hb e)))).2.1
  cases f with
  | next=>obtain⟨σ7,H7,I7,n7⟩:=q7;exact again I7 n7
  | cont=>obtain⟨σ7,H7,I7,n7⟩:=q7;exact again I7 n7
  | brk=>obtain⟨σ7,H7,I7,q7⟩:=q7;exact⟨σ7,H7,I7.unpinned,q7⟩
  | ret v=>obtain⟨x7,σ7,H7,I7,r7,q7⟩:=q7;exact⟨x7,σ7,H7,I7.unpinned,r7,q7⟩
end
theorem cK{K:Ec}{a:Addr}{xs:List V}{g:TG}{tb:TS}{D:Ends}{σ:St}{H:Hp}(Pv:Nat->St->Hp->Prop)(h0:Pv 0 σ H)(hl:∀i σ H,i<=xs.length->Pv i σ H->SqL K H a xs)
  (hs:∀i x σ H,xs[i]? = some x->Pv i σ H->g x σ H λσ2 H2=>tb { D with nx:=Pv (i+1),ct:=Pv (i+1),bk:=D.nx } σ2 H2) (hd:∀σ H,Pv xs.length σ H->D.nx σ H) :
  ∃W:Nat->Nat->St->Hp->Prop,(∃m,W 0 m σ H)/\∀i m σ H,W i m σ H->
   ((Itl K a).stop i H/\D.nx σ H)\/((Itl K a).go i H/\∃N:St->Hp->Prop,(∀σ' H',N σ' H'->∃m',m'<m/\W (i+1) m' σ' H')/\∀x H',(Itl K a).yld i H x H'->g x σ H' λσ2 H2=>tb { D with nx:=N,ct:=N,bk:=D.nx } σ2 H2):=by
 refine⟨λi m σ H=>m=xs.length - i/\i<=xs.length/\Pv i σ H,⟨xs.length,by simp,Eo _,h0⟩,?_⟩;rintro i m σ H ⟨rfl,hi,p⟩;have q:=hl i σ H hi p;by_cases hlt:i<xs.length
 ·refine .inr ⟨⟨xs,xs[i],q,by simp[hlt]⟩,Pv (i+1),λσ' H' p'=>⟨xs.length - (i+1),by lia,rfl,hlt,p'⟩,λx H' y=>?_⟩
  obtain⟨e,y⟩:=y;subst e;exact hs i x σ _ (y xs q) p
 ·have e:i=xs.length:=by lia
  subst e;exact .inl ⟨⟨xs,q,Ed _⟩,hd σ H p⟩
theorem oy{K:Ec}{a:Addr}{xs:List V}{g:TG}{tb:TS}{D:Ends}{σ:St}{H:Hp}(Pv:Nat->St->Hp->Prop)(h0:Pv 0 σ H)(hl:∀i σ H,i<=xs.length->Pv i σ H->SqT K H a xs)
  (hs:∀i x σ H,xs[i]? = some x->Pv i σ H->g x σ H λσ2 H2=>tb { D with nx:=Pv (i+1),ct:=Pv (i+1),bk:=D.nx } σ2 H2) (hd:∀σ H,Pv xs.length σ H->D.nx σ H) :
  ∃W:Nat->Nat->St->Hp->Prop,(∃m,W 0 m σ H)/\∀i m σ H,W i m σ H->
   ((Itt K a).stop i H/\D.nx σ H)\/((Itt K a).go i H/\∃N:St->Hp->Prop,(∀σ' H',N σ' H'->∃m',m'<m/\W (i+1) m' σ' H')/\∀x H',(Itt K a).yld i H x H'->g x σ H' λσ2 H2=>tb { D with nx:=N,ct:=N,bk:=D.nx } σ2 H2):=by
 refine⟨λi m σ H=>m=xs.length - i/\i<=xs.length/\Pv i σ H,⟨xs.length,by simp,Eo _,h0⟩,?_⟩;rintro i m σ H ⟨rfl,hi,p⟩;have q:=hl i σ H hi p;by_cases hlt:i<xs.length
 ·refine .inr ⟨⟨xs,xs[i],q,by simp[hlt]⟩,Pv (i+1),λσ' H' p'=>⟨xs.length - (i+1),by lia,rfl,hlt,p'⟩,λx H' y=>?_⟩
  obtain⟨e,y⟩:=y;subst e;exact hs i x σ _ (y xs q) p
 ·have e:i=xs.length:=by lia
  subst e;exact .inl ⟨⟨xs,q,Ed _⟩,hd σ H p⟩
theorem fW{lo:Int}{n:Nat}{g:TG}{tb:TS}{D:Ends}{σ:St}{H:Hp}(Pv:Nat->St->Hp->Prop)(h0:Pv 0 σ H)
  (hs:∀i σ H,i<n->Pv i σ H->g (.int (lo+i)) σ H λσ2 H2=>tb { D with nx:=Pv (i+1),ct:=Pv (i+1),bk:=D.nx } σ2 H2) (hd:∀σ H,Pv n σ H->D.nx σ H) :
  ∃W:Nat->Nat->St->Hp->Prop,(∃m,W 0 m σ H)/\∀i m σ H,W i m σ H->
   ((Itr lo n).stop i H/\D.nx σ H)\/((Itr lo n).go i H/\∃N:St->Hp->Prop,(∀σ' H',N σ' H'->∃m',m'<m/\W (i+1) m' σ' H')/\∀x H',(Itr lo n).yld i H x H'->g x σ H' λσ2 H2=>tb { D with nx:=N,ct:=N,bk:=D.nx } σ2 H2):=by
 refine⟨λi m σ H=>m=n - i/\i<=n/\Pv i σ H,⟨n,by simp,Eo _,h0⟩,?_⟩;rintro i m σ H ⟨rfl,hi,p⟩;by_cases hlt:i<n
 ·refine .inr ⟨hlt,Pv (i+1),λσ' H' p'=>⟨n - (i+1),by lia,rfl,hlt,p'⟩,λx H' y=>?_⟩
  obtain⟨e,y⟩:=y;subst e y;exact hs i σ _ hlt p
 ·have e:i=n:=by lia
  subst e;exact .inl ⟨Ed _,hd σ H p⟩
noncomputable abbrev R2:=V->V->Hp->VK->Prop
def OpR(X:Cx)(f:Value->Value->Sem Value)(r:R2):Prop:=
 ∀(pins:List (Addr×Obj)) (s:Shared) (σ:St) (H:Hp) (x y:V) (v u:Value) (Q:VK),Inv X pins σ H s->RelV x v->RelV y u->r x y H Q->
  wpAny (model X.prog X.w) X.A (f v u) (EP X pins σ Q) X.xe s
def UnR(X:Cx)(f:Value->Sem Value)(r:V->Hp->VK->Prop):Prop:=
 ∀(pins:List (Addr×Obj)) (s:Shared) (σ:St) (H:Hp) (x:V) (v:Value) (Q:VK),Inv X pins σ H s->RelV x v->r x H Q->
  wpAny (model X.prog X.w) X.A (f v) (EP X pins σ Q) X.xe s
def bQ(X:Cx)(f:Value)(r:List V->Hp->VK->Prop):Prop:=
 ∀(pins:List (Addr×Obj)) (s:Shared) (σ:St) (H:Hp) (xs:List V) (us:List Value) (Q:VK),Inv X pins σ H s->Vals xs us->r xs H Q->
  wpAny (model X.prog X.w) X.A (call f us) (EP X pins σ Q) X.xe s
def DD(X:Cx)(r:V->Hp->(Bool->Hp->Prop)->Prop):Prop:=
 ∀(pins:List (Addr×Obj)) (s:Shared) (σ:St) (H:Hp) (x:V) (v:Value) (Q:Bool->Hp->Prop),Inv X pins σ H s->RelV x v->r x H Q->
  wpAny (model X.prog X.w) X.A (truthy v) (TP X pins σ Q) X.xe s
def tOp(r:R2)(ta tb:TE):TE:=λσ H Q=>ta σ H λx H1=>tb σ H1 λy H2=>r x y H2 Q
def tUn(r:V->Hp->VK->Prop)(ta:TE):TE:=λσ H Q=>ta σ H λx H1=>r x H1 Q
def rI(C:Int->Int->Prop)(g:Int->Int->V):R2:=λx y H Q=>∃i j,x=.int i/\y=.int j/\C i j/\Q (g i j) H
def rI0(g:Int->Int->V):R2:=λx y H Q=>∃i j,x=.int i/\y=.int j/\Q (g i j) H
def rU(g:Int->V):V->Hp->VK->Prop:=λx H Q=>∃i,x=.int i/\Q (g i) H
section
variable{X:Cx}{a b c:Expr}{ta tb tc:TE}{pos:Pos}
theorem Bi(ha:PE X a ta)(hb:PE X b tb){pins:List (Addr×Obj)}{s:Shared}{σ:St}{H:Hp}{R:V->V->Hp->Prop}(I:Inv X pins σ H s)
  (h:ta σ H λx H1=>tb σ H1 λy H2=>R x y H2){Q:Value->Shared->Prop}{f:Value->Value->Sem Value}
  (hf:∀v u s2 x y H2,Inv X pins σ H2 s2->RelV x v->RelV y u->R x y H2->wpAny (model X.prog X.w) X.A (f v u) Q X.xe s2) :
  wpAny (model X.prog X.w) X.A (eval a X.env) (λv s₁=>wpAny (model X.prog X.w) X.A (eval b X.env) (λu s₂=>wpAny (model X.prog X.w) X.A (f v u) Q X.xe s₂) X.xe s₁) X.xe s:=by
 refine thn (ha pins s σ H _ I h) λv s1 ⟨x,H1,I1,r1,q1⟩=>?_
 refine thn (hb pins s1 σ H1 _ I1 q1) λu s2 ⟨y,H2,I2,r2,q2⟩=>?_
 exact hf v u s2 x y H2 I2 r1 r2 q2
theorem Bj{op:Operator}{r:R2}(ho:OpR X (OB op) r)(ha:PE X a ta)(hb:PE X b tb):PE X (.BinOp a op b pos) (tOp r ta tb):=by
 intro pins s σ H Q I h;exact wpAny_BinOp (Bi ha hb I h λv u s2 x y H2 I2 rx ry q=>ho pins s2 σ H2 x y v u Q I2 rx ry q)
theorem yA{op:UnaryOp}{r:V->Hp->VK->Prop}(ho:UnR X (unaryOp op) r)(ha:PE X a ta):PE X (.UnaryOp op a pos) (tUn r ta):=by
 intro pins s σ H Q I h;exact UnaryOp_ (thn (ha pins s σ H _ I h) λv s1 ⟨x,H1,I1,r1,q1⟩=>ho pins s1 σ H1 x v Q I1 r1 q1)
theorem opI{f:Value->Value->Sem Value}{C:Int->Int->Prop}{g:Int->Int->Int}
  (rule:∀(i j:Int) (t u:Tok) (s:Shared) (Q:Value->Shared->Prop) (E:Value->Shared->Prop),C i j->Q (.int (g i j) s.toks) { s with toks:=s.toks+1 }->wpAny (model X.prog X.w) X.A (f (.int i t) (.int j u)) Q E s) :
  OpR X f (rI C λi j=>.int (g i j)):=by
 intro pins s σ H x y v u Q I rx ry h;obtain⟨i,j,rfl,rfl,hc,q⟩:=h;obtain⟨t,rfl⟩:=rx;obtain⟨t',rfl⟩:=ry;exact rule i j t t' s _ _ hc ⟨.int (g i j),H,I.tok _,⟨_,rfl⟩,q⟩
theorem AE{f:Value->Value->Sem Value}{g:Int->Int->Int}
  (rule:∀(i j:Int) (t u:Tok) (s:Shared) (Q:Value->Shared->Prop) (E:Value->Shared->Prop),Q (.int (g i j) s.toks) { s with toks:=s.toks+1 }->wpAny (model X.prog X.w) X.A (f (.int i t) (.int j u)) Q E s) :
  OpR X f (rI0 λi j=>.int (g i j)):=by
 intro pins s σ H x y v u Q I rx ry h;obtain⟨i,j,rfl,rfl,q⟩:=h;obtain⟨t,rfl⟩:=rx;obtain⟨t',rfl⟩:=ry;exact rule i j t t' s _ _ ⟨.int (g i j),H,I.tok _,⟨_,rfl⟩,q⟩
theorem AF{f:Value->Value->Sem Value}{g:Int->Int->Bool}
  (rule:∀(i j:Int) (t u:Tok) (s:Shared) (Q:Value->Shared->Prop) (E:Value->Shared->Prop),Q (.bool (g i j)) s->wpAny (model X.prog X.w) X.A (f (.int i t) (.int j u)) Q E s) :
  OpR X f (rI0 λi j=>.bl (g i j)):=by
 intro pins s σ H x y v u Q I rx ry h;obtain⟨i,j,rfl,rfl,q⟩:=h;obtain⟨t,rfl⟩:=rx;obtain⟨t',rfl⟩:=ry;exact rule i j t t' s _ _ ⟨.bl (g i j),H,I,rfl,q⟩
def Bk(i j:Int):Prop:=0<j/\j<1073741824
def AG(i j:Int):Prop:=0<=j/\j<=1000000/\i.natAbs<2 ^ 64
def CMul(i j:Int):Prop:=(-(2 ^ 64)<i/\i<2 ^ 64)\/(-(2 ^ 64)<j/\j<2 ^ 64)
theorem CMul.ok{i j:Int}(h:CMul i j):IntMulOk i j:=by
 rcases h with⟨h1,h2⟩|⟨h1,h2⟩
 ·exact .of_left (intBits_le_64 h1 h2)
 ·exact .of_right (intBits_le_64 h1 h2)
theorem yB:OpR X (OB .Add) (rI0 λi j=>.int (i+j)):=AE λ_ _ _ _ _ _ _ q=>add_int q
theorem yC:OpR X (OB .Sub) (rI0 λi j=>.int (i - j)):=AE λ_ _ _ _ _ _ _ q=>sub_int q
theorem yD:OpR X (OB .Mult) (rI CMul λi j=>.int (i*j)):=opI λ_ _ _ _ _ _ _ hc q=>mul_int q hc.ok
theorem yE:OpR X (OB .Mod) (rI (λ_ j=>0<j) λi j=>.int (i % j)):=opI λi j _ _ _ _ _ hc q=>by
 have h1:(0:Int)<j:=hc;exact mod_int' ⋯ (by rw[Int.fmod_eq_emod_of_nonneg i ⋯];exact q)
theorem yF:OpR X (OB .Pow) (rI AG λi j=>.int (i ^ j.toNat)):=opI λ_ _ _ _ _ _ _ hc q=>pow_int_small hc.1 hc.2.1 hc.2.2 q
theorem vA:OpR X (OS .Add) (rI0 λi j=>.int (i+j)):=AE λ_ _ _ _ _ _ _ q=>iadd_int q
theorem vB:OpR X (OS .Sub) (rI0 λi j=>.int (i - j)):=AE λ_ _ _ _ _ _ _ q=>isub_int q
theorem rj:OpR X (OS .FloorDiv) (rI Bk λi j=>.int (i / j)):=opI λi j _ _ _ _ _ hc q=>by
 have h1:(0:Int)<j:=hc.1;have h2:j<1073741824:=hc.2;exact ifloordiv_int ⋯ (by rw[IH i ⋯];exact q) (.inl (PyProof.noPylong_small ⋯))
theorem unI{f:Value->Sem Value}{g:Int->Int}
  (rule:∀(i:Int) (t:Tok) (s:Shared) (Q:Value->Shared->Prop) (E:Value->Shared->Prop),Q (.int (g i) s.toks) { s with toks:=s.toks+1 }->wpAny (model X.prog X.w) X.A (f (.int i t)) Q E s) :
  UnR X f (rU λi=>.int (g i)):=by
 intro pins s σ H x v Q I rx h;obtain⟨i,rfl,q⟩:=h;obtain⟨t,rfl⟩:=rx;exact rule i t s _ _ ⟨.int (g i),H,I.tok _,⟨_,rfl⟩,q⟩
theorem uk:UnR X (unaryOp .USub) (rU λi=>.int (-i)):=unI λ_ _ _ _ _ q=>neg_int q
end
noncomputable def CP:V->V->Bool
 | .non,.non=>true | .non,.int _=>true | .int _,.non=>true | .non,.bl _=>true | .bl _,.non=>true | .non,.str _=>true | .str _,.non=>true
 | .int _,.int _=>true | .bl _,.bl _=>true | .str _,.str _=>true | .byt _,.byt _=>true
 | .int _,.str _=>true | .str _,.int _=>true | .bl _,.str _=>true | .str _,.bl _=>true
 | _,_=>false
def rEq:R2:=λx y H Q=>CP x y=true/\Q (.bl (decide (x=y))) H
def rNe:R2:=λx y H Q=>CP x y=true/\Q (.bl (!decide (x=y))) H
theorem oz{i j:Int}:decide (V.int i=V.int j)=(i == j):=by
 rw[G4];simp
theorem um{i j:Bool}:decide (V.bl i=V.bl j)=(i == j):=by
 rw[G4];simp
theorem oA{i j:Str}:decide (V.str i=V.str j)=(i == j):=by
 rw[G4];simp
theorem oB{i j:Array UInt8}:decide (V.byt i=V.byt j)=(i.toList == j.toList):=by
 rw[G4];cases i;cases j;simp
section
variable{X:Cx}{a b c:Expr}{ta tb tc:TE}{pos:Pos}
theorem bc{pins:List (Addr×Obj)}{σ:St}{H:Hp}{s:Shared}{Q:VK}{k k':Bool}(I:Inv X pins σ H s)(q:Q (.bl k) H)(e:k=k'):EP X pins σ Q (.bool k') s:=by
 subst e;exact⟨.bl k,H,I,rfl,q⟩
theorem Bl:OpR X (Ou .Eq) rEq:=by
 intro pins s σ H x y v u Q I rx ry h;obtain⟨hs,q⟩:=h;cases x with
 | non=>
  cases rx;cases y with
  | non=>cases ry;exact Mv (bc I q (by simp))
  | bl j=>cases ry;exact Mw (bc I q (by simp))
  | int j=>obtain⟨t',rfl⟩:=ry;exact MI (bc I q (by simp))
  | str j=>obtain⟨t',rfl⟩:=ry;exact MJ (bc I q (by simp))
  | _=>exact absurd (show false=true from hs) ED
 | bl i=>
  cases rx;cases y with
  | non=>cases ry;exact Mx (bc I q (by simp))
  | bl j=>cases ry;exact eq_bool (bc I q um)
  | str j=>obtain⟨t',rfl⟩:=ry;exact My (bc I q (by simp))
  | _=>exact absurd (show false=true from hs) ED
 | int i=>
  obtain⟨t,rfl⟩:=rx;cases y with
  | non=>cases ry;exact MK (bc I q (by simp))
  | int j=>obtain⟨t',rfl⟩:=ry;exact eq_int (bc I q oz)
  | str j=>obtain⟨t',rfl⟩:=ry;exact ML (bc I q (by simp))
  | _=>exact absurd (show false=true from hs) ED
 | str i=>
  obtain⟨t,rfl⟩:=rx;cases y with
  | non=>cases ry;exact MM (bc I q (by simp))
  | bl j=>cases ry;exact Mz (bc I q (by simp))
  | int j=>obtain⟨t',rfl⟩:=ry;exact MN (bc I q (by simp))
  | str j=>obtain⟨t',rfl⟩:=ry;exact eq_str (bc I q oA)
  | _=>exact absurd (show false=true from hs) ED
 | byt i=>
  obtain⟨t,rfl⟩:=rx;cases y with
  | byt j=>obtain⟨t',rfl⟩:=ry;exact PySem.W.eq_bytes (bc I q oB)
  | _=>exact absurd (show false=true from hs) ED
 | _=>cases y<;>exact absurd (show false=true from hs) ED
theorem Bm:OpR X (Ou .NotEq) rNe:=by
 intro pins s σ H x y v u Q I rx ry h;obtain⟨hs,q⟩:=h;cases x with
 | non=>
  cases rx;cases y with
  | non=>cases ry;exact MA (bc I q (by simp))
  | bl j=>cases ry;exact MB (bc I q (by simp))
  | int j=>obtain⟨t',rfl⟩:=ry;exact MO (bc I q (by simp))
  | str j=>obtain⟨t',rfl⟩:=ry;exact MP (bc I q (by simp))
  | _=>exact absurd (show false=true from hs) ED
 | bl i=>
  cases rx;cases y with
  | non=>cases ry;exact MC (bc I q (by simp))
  | bl j=>cases ry;exact ne_bool (bc I q (congrArg not um))
  | str j=>obtain⟨t',rfl⟩:=ry;exact MD (bc I q (by simp))
  | _=>exact absurd (show false=true from hs) ED
 | int i=>
  obtain⟨t,rfl⟩:=rx;cases y with
  | non=>cases ry;exact MQ (bc I q (by simp))
  | int j=>obtain⟨t',rfl⟩:=ry;exact ne_int (bc I q (congrArg not oz))
  | str j=>obtain⟨t',rfl⟩:=ry;exact MR (bc I q (by simp))
  | _=>exact absurd (show false=true from hs) ED
 | str i=>
  obtain⟨t,rfl⟩:=rx;cases y with
  | non=>cases ry;exact MS (bc I q (by simp))
  | bl j=>cases ry;exact ME (bc I q (by simp))
  | int j=>obtain⟨t',rfl⟩:=ry;exact MT (bc I q (by simp))
  | str j=>obtain⟨t',rfl⟩:=ry;exact ne_str (bc I q (congrArg not oA))
  | _=>exact absurd (show false=true from hs) ED
 | byt i=>
  obtain⟨t,rfl⟩:=rx;cases y with
  | byt j=>obtain⟨t',rfl⟩:=ry;exact PySem.W.ne_bytes (bc I q (congrArg not oB))
  | _=>exact absurd (show false=true from hs) ED
 | _=>cases y<;>exact absurd (show false=true from hs) ED
theorem Bo:OpR X (Ou .Lt) (rI0 λi j=>.bl (decide (i<j))):=AF λ_ _ _ _ _ _ _ q=>lt_int q
theorem Bp:OpR X (Ou .LtE) (rI0 λi j=>.bl (decide (i<=j))):=AF λ_ _ _ _ _ _ _ q=>le_int q
theorem Bq:OpR X (Ou .Gt) (rI0 λi j=>.bl (decide (j<i))):=AF λ_ _ _ _ _ _ _ q=>gt_int q
theorem Br:OpR X (Ou .GtE) (rI0 λi j=>.bl (decide (j<=i))):=AF λ_ _ _ _ _ _ _ q=>ge_int q
theorem yG:OpR X (Ou .Is) (λx y H Q=>y=.non/\Q (.bl (decide (x=.non))) H):=by
 intro pins s σ H x y v u Q I rx ry h;obtain⟨rfl,q⟩:=h;cases ry;refine is_none_gen (bc I q ?_);cases x<;>first
  | (cases rx;rfl)
  | (obtain⟨t,rfl⟩:=rx;rfl)
theorem aw(b:Expr){op:CmpOp}(h:op≠.In:=by decide)(h2:op≠.NotIn:=by decide):OQ op b=false:=by
 have e1:(op == CmpOp.In)=false:=by cases op<;>first|rfl|exact absurd rfl h
 have e2:(op == CmpOp.NotIn)=false:=by cases op<;>first|rfl|exact absurd rfl h2
 cases b<;>simp[OQ,e1,e2]
theorem vC{op:CmpOp}{r:R2}(ho:OpR X (Ou op) r)(ha:PE X a ta)(hb:PE X b tb)(hm:OQ op b=false):PE X (.Compare a [op] [b] pos) (tOp r ta tb):=by
 intro pins s σ H Q I h;exact wpAny_Compare1 (Bi ha hb I h λv u s2 x y H2 I2 rx ry q=>ho pins s2 σ H2 x y v u Q I2 rx ry q) hm
def vD(t:TE):TT:=λσ H Q=>t σ H λx H'=>∃k,x=.bl k/\Q k H'
theorem vE{op:CmpOp}{r:R2}(ho:OpR X (Ou op) r)(ha:PE X a ta)(hb:PE X b tb)(hm:OQ op b=false):PT X (.Compare a [op] [b] pos) (vD (tOp r ta tb)):=by
 intro pins s σ H Q I h;refine wpAny_isTrue_Compare1 (thn (ha pins s σ H _ I h) λv s1 ⟨x,H1,I1,r1,q1⟩=>thn (hb pins s1 σ H1 _ I1 q1) λu s2 ⟨y,H2,I2,r2,q2⟩=>
  thn (ho pins s2 σ H2 x y v u _ I2 r1 r2 q2) λc s3 ⟨z,H3,I3,r3,k,e,q3⟩=>?_) hm
 subst e;cases r3;exact Oz ⟨H3,I3,q3⟩
def uo(K:Ec)(x:V)(H:Hp)(k:Bool):Prop:=
 match x with
 | .non=>k=false
 | .bl b=>k=b
 | .int i=>k=(i != 0)
 | .str y=>y.length<=Oo/\k=((y.length:Int) != 0)
 | .byt y=>y.size<=Oo/\k=((y.size:Int) != 0)
 | .ref p=>(∃xs,SqL K H p xs/\k=!xs.isEmpty)\/(∃xs,SqT K H p xs/\k=!xs.isEmpty)\/∃kvs,H p=some (.dK kvs)/\k=!kvs.isEmpty
 | _=>False
theorem ny{κ:Type}{kvs:List (κ×V)}{vs:List (κ×Value)}(r:KV kvs vs):(!vs.isEmpty)=!kvs.isEmpty:=by
 cases r<;>rfl
theorem hE{xs:List V}{its:List Value}(r:Vals xs its):(!its.toArray.isEmpty)=!xs.isEmpty:=by
 cases r<;>simp
theorem eC:(Oo:Nat)<2 ^ 63:=by rw[Os];decide
theorem uq:DD X (λx H Q=>∃k,uo X.K x H k/\Q k H):=by
 intro pins s σ H x v Q I rx h;obtain⟨k,e,q⟩:=h;have hl:=eC;have hs:Oo=16777216:=Os;cases x with
 | non=>
  cases rx;have e':k=false:=e;subst e';exact truthy_none ⟨H,I,q⟩
 | bl b=>
  cases rx;have e':k=b:=e;subst e';exact Oz ⟨H,I,q⟩
 | int i=>
  obtain⟨t,rfl⟩:=rx;have e':k=(i != 0):=e;subst e';exact PySem.P.truthy_int ⟨H,I,q⟩
 | str y=>
  obtain⟨t,rfl⟩:=rx;obtain⟨hy,e'⟩:y.length<=Oo/\k=((y.length:Int) != 0):=e;subst e';exact PySem.P.truthy_str ⋯ ⟨H,I.tok _,q⟩
 | byt y=>
  obtain⟨t,rfl⟩:=rx;obtain⟨hy,e'⟩:y.size<=Oo/\k=((y.size:Int) != 0):=e;subst e';exact PySem.W.truthy_bytes ⋯ ⟨H,I.tok _,q⟩
 | ref p=>
  cases rx;have e':(∃xs,SqL X.K H p xs/\k=!xs.isEmpty)\/(∃xs,SqT X.K H p xs/\k=!xs.isEmpty)\/∃kvs,H p=some (.dK kvs)/\k=!kvs.isEmpty:=e
  rcases e' with⟨xs,hx,e'⟩|⟨xs,hx,e'⟩|⟨kvs,hx,e'⟩
  ·subst e'
   obtain⟨its,r,pl,hz⟩:=I.list hx;have hlen:=r.length;exact wpAny_truthy_list pl.isList (by simp only[Et];lia) ⟨H,I.tok _,by rw[hE r];exact q⟩
  ·subst e'
   obtain⟨its,r,pl,hz⟩:=I.tuple hx;have hlen:=r.length;exact truthy_tuple pl (by simp only[Et];lia) ⟨H,I.tok _,by rw[hE r];exact q⟩
  ·subst e'
   obtain⟨hz,hS,vs,r,m⟩:kvs.length<=Oo/\(p == sysModules)=false/\∃vs,KV kvs vs/\s.heap.DictOf (kQ X.prog X.w) p vs:=I.hok p _ hx
   have hlen:kvs.length=vs.length:=Ml r;exact wpAny_truthy_dict hS m ⋯ ⟨H,I.tok _,by rw[ny r];exact q⟩
 | _=>exact(show False from e).elim
theorem rk(ha:PE X a ta)(he:∀whole,isTrue a X.env whole=(do let v <-whole;standAt a.pos;OF [v] (truthy v))):
  PT X a (λσ H Q=>ta σ H λx H'=>∃k,uo X.K x H' k/\Q k H'):=by
 intro pins s σ H Q I h;exact isTrue_plain (thn (ha pins s σ H _ I h) λv s1 ⟨x,H1,I1,r1,q1⟩=>uq pins s1 σ H1 x v Q I1 r1 q1) (he _)
theorem nz:OpR X (OB .Add) (λx y H Q=>∃i j,x=.str i/\y=.str j/\i.length+j.length<=Oo/\Q (.str (i++j)) H):=by
 intro pins s σ H x y v u Q I rx ry h;obtain⟨i,j,rfl,rfl,hz,q⟩:=h;obtain⟨t,rfl⟩:=rx;obtain⟨t',rfl⟩:=ry;exact add_str (λt' tk=>⟨.str (i++j),H,I.tok _,⟨_,rfl⟩,q⟩) hz
theorem cx{x:V}{us:List Value}(r:Vals [x] us):∃u,us=[u]/\RelV x u:=by
 cases r with
 | cons r1 r2=>cases r2;exact⟨_,rfl,r1⟩
theorem yH{x y:V}{us:List Value}(r:Vals [x,y] us):∃u w',us=[u,w']/\RelV x u/\RelV y w':=by
 cases r with
 | cons r1 r2=>
  cases r2 with
  | cons r3 r4=>cases r4;exact⟨_,_,rfl,r1,r3⟩
theorem rl:bQ X (.builtin "abs") (λxs H Q=>∃i,xs=[.int i]/\Q (.int (if i<0 then -i else i)) H):=by
 intro pins s σ H xs us Q I r h;obtain⟨i,rfl,q⟩:=h;obtain⟨u,rfl,t,rfl⟩:=cx r;exact call_abs_int λu tk=>⟨.int (if i<0 then -i else i),H,I.tok _,⟨_,rfl⟩,q⟩
theorem oE (hc:X.calm=true):bQ X (.builtin "min") (λxs H Q=>∃i j,xs=[.int i,.int j]/\Q (.int (if j<i then j else i)) H):=by
 intro pins s σ H xs us Q I r h;obtain⟨i,j,rfl,q⟩:=h;obtain⟨u,w',rfl,⟨t,rfl⟩,⟨t',rfl⟩⟩:=yH r;refine min_two_ints (I.ok.hd hc) λh' tk k=>⟨_,H,I.kept k,?_,q⟩
 by_cases hj:j<i
 ·rw[if_pos hj,if_pos hj];exact⟨_,rfl⟩
 ·rw[if_neg hj,if_neg hj];exact⟨_,rfl⟩
theorem oF:bQ X (.type "int") (λxs H Q=>(∃i,xs=[.int i]/\Q (.int i) H)\/∃k,xs=[.bl k]/\Q (.int (if k then 1 else 0)) H):=by
 intro pins s σ H xs us Q I r h;rcases h with⟨i,rfl,q⟩|⟨k,rfl,q⟩
 ·obtain⟨u,rfl,t,rfl⟩:=cx r
  exact call_int_int ⟨.int i,H,I,⟨_,rfl⟩,q⟩
 ·obtain⟨u,rfl,r1⟩:=cx r
  cases r1;exact call_int_bool ⟨.int (if k then 1 else 0),H,I.tok _,⟨_,rfl⟩,q⟩
theorem jw:bQ X (.type "str") (λxs H Q=>∃i,xs=[.int i]/\i.natAbs.log2<1920/\Q (.str (toString i)) H):=by
 intro pins s σ H xs us Q I r h;obtain⟨i,rfl,hz,q⟩:=h;obtain⟨u,rfl,t,rfl⟩:=cx r;exact PySem.P.str_of_int hz ⟨.str _,H,I.tok _,⟨_,rfl⟩,q⟩
theorem rm:bQ X (.builtin "ord") (λxs H Q=>∃x,xs=[.str x]/\x.length=1/\Q (.int (x.cps.getD 0 0:Nat)) H):=by
 intro pins s σ H xs us Q I r h;obtain⟨x,rfl,hz,q⟩:=h;obtain⟨u,rfl,t,rfl⟩:=cx r;exact ord_of_one hz ⟨.int _,H,I.tok _,⟨_,rfl⟩,q⟩
end
structure ObjM (h:Heap) (x dx C:Addr) (mA:Str->Option Value):Prop where
 obj:h.get? x=some (FZ C dx)
 ns:h.Ns1 dx mA
 ne:dx≠x
theorem oG{h:Heap}{dx:Addr}{mA:Str->Option Value}(n:h.Ns1 dx mA):∃od,h.get? dx=some od/\∀name,JN name od=some (mA name):=by
 obtain⟨o,es,ep,ho,hd,hk,_,hm⟩:=n;refine⟨o,ho,λname=>?_⟩;have e:=hm name;unfold nsFind findBy at e;rw[<-Array.find?_toList]at e;unfold JN;rw[hd];dsimp only;split
 ·rename_i y q
  rw[q]at e;exact congrArg some e
 ·rename_i q
  rw[q]at e;have a:es.toList.any (·.refKey)=false:=by
   rw[List.any_eq_false];intro y hy;obtain⟨z,t,hkey⟩:=hk y (JZ.mp hy);simp[N1,hkey]
  have a':¬es.toList.any (·.refKey)=true:=by rw[a];exact ED
  rw[if_neg a'];exact congrArg some e
theorem ObjM.look{h:Heap}{x dx C:Addr}{mA:Str->Option Value}(I:ObjM h x dx C mA):∃od,PySem.W.InstAt h x (FZ C dx) C (some od)/\∀name,JN name od=some (mA name):=
 let⟨od,ho,hl⟩:=oG I.ns
 ⟨od,⟨I.obj,rfl,rfl,ho⟩,hl⟩
section
variable{prog:Program}{w:World}{A:Around}{E:Value->Shared->Prop}{s:Shared}{K:Ec}{x dx C f:Addr}{mA:Str->Option Value}{name:Str}{v:Value}
theorem vF{expr:Bool}{Q:Value->Shared->Prop}(X:K.In s.heap)(I:ObjM s.heap x dx C mA)(hg:Ht K C name=true)(hh:Hk K C=true)
  (ha:Fj K (.ref C) name=some none) (hv:mA name=some v) (hv':K6 v=true) (h:Q v { s with toks:=s.toks+1 }) :
  wpAny (model prog w) A (getAttr (.ref x) name expr) Q E s:=by
 obtain⟨od,J,hl⟩:=I.look;exact PySem.W.get_value X J (PySem.W.plainGet_of hg).1 (PySem.W.findObj_own hh ha rfl (by rw[hl,hv])) hv' h
theorem vG{ns:List Str}{Q:Unit->Shared->Prop}(X:K.In s.heap)(I:ObjM s.heap x dx C mA)
  (hs:Fj K (.ref C) "__setattr__" = some (some (.builtin "object.__setattr__"))) (hp:IT K C=true) (ht:Ju K C name=some none) (hh:Hk K C=true)
  (hw:Kk mA ns) (hsz:ns.length<=Oo)
  (h:∀h',ObjM h' x dx C (λy=>if y=name then some v else mA y)->Kl dx s.heap h'->Q () { s with heap:=h',toks:=s.toks+2 }) :
  wpAny (model prog w) A (setAttr (.ref x) name v) Q E s:=by
 obtain⟨od,J,hl⟩:=I.look;refine PySem.W.set_plain X J hs (PySem.W.osa_open (s:={ s with toks:=s.toks+1 }) (r:=none) X J hp ht λb=>?_);obtain⟨cd,hc,hd'⟩:=PySem.W.any_some hh;have hx:s.heap.get? x=some ⟨.ref C,some dx,.plain,#[]⟩:=I.obj;refine On (Oq (On (On (wpAny_loadPart hx (On (NP (s:={ s with toks:=s.toks+1 }) (PySem.W.looks_clsIn X hc) ?_))))));rw[hd'];refine Oq (a:=some dx) (On (Oq (On ?_)));refine wpAny_nsSet1 (s:={ s with toks:=s.toks+1 }) I.ns λh' hn2 hs2=>?_
 obtain⟨oD,esD,epD,hoD,hdD,hcD⟩:=hn2.count (NX name v hw);refine On (wpAny_lookBehind hoD (by rw[hdD];exact pastItsLine_dict (E5 hcD (by rw[EB];lia))) ?_);exact Oq (h _ ⟨(hs2.2 _ (E2 I.ne)).trans I.obj,hn2,I.ne⟩ hs2)
theorem rn{R:Result->Shared->Prop}{vs:List Value}{kw:List (Str×Value)}(X:K.In s.heap)(hm:Jv K C=true)
  (hi:Fj K (.ref C) "__init__" = some (some (.ref f))) (hf:PySem.W.typeIn K (.ref f)=some (.type "function"))
  (h:codeAny (model prog w) (A.under (.builtin "type.__call__" ⟨.ref C::vs,kw⟩)) (.call (.ref f) ⟨.ref (s.heap.objs.size+1)::vs,kw⟩) (PySem.W.InitBack (s.heap.objs.size+1) R)
   { s with heap:=(s.heap.push FF).push (FZ C s.heap.objs.size) }) :
  codeAny (model prog w) A (.call (.ref C) ⟨vs,kw⟩) R s:=by
 obtain⟨hh,g,d,t,os⟩:=s;exact PySem.W.make_core (PySem.W.makes_of X hm) (PySem.W.looks_findIn X hi) (λself=>PySem.W.bind_fn X self hf) (.inl rfl) h
end
noncomputable def bU(f:Str)(v:V):List (Str×V)->List (Str×V)
 | []=>[(f,v)]
 | (g,x)::r=>if g=f then(g,v)::r else(g,x)::bU f v r
theorem fX(f g:Str)(v:V):∀fs:List (Str×V),(bU f v fs).lookup g=if g=f then some v else fs.lookup g
 | []=>by
  show FP g [(f,v)]=_
  by_cases h:g=f
  ·have hb:(g == f)=true:=beq_iff_eq.mpr h
   simp only[FP,hb,if_pos h]
  ·have hb:(g == f)=false:=beq_eq_false_iff_ne.mpr h
   simp only[FP,hb,if_neg h]
 | (k,x)::r=>by
  have ih:=fX f g v r;rw[show bU f v ((k,x)::r)=(if k=f then(k,v)::r else(k,x)::bU f v r)from rfl];by_cases hk:k=f
  ·rw[if_pos hk]
   by_cases h:g=k
   ·have hb:(g == k)=true:=beq_iff_eq.mpr h
    simp only[FP,hb,if_pos (h.trans hk)]
   ·have hb:(g == k)=false:=beq_eq_false_iff_ne.mpr h
    simp only[FP,hb,if_neg (λe:g=f=>h (e.trans hk.symm))]
  ·rw[if_neg hk]
   by_cases h:g=k
   ·have hb:(g == k)=true:=beq_iff_eq.mpr h
    simp only[FP,hb,if_neg (λe:g=f=>hk (h.symm.trans e))]
   ·have hb:(g == k)=false:=beq_eq_false_iff_ne.mpr h
    simp only[FP,hb];exact ih
theorem fY(f:Str)(v:V):∀fs:List (Str×V),f∈(bU f v fs).map (·.1)/\∀g,g∈fs.map (·.1)->g∈(bU f v fs).map (·.1)
 | []=>⟨by simp[bU],λg h=>by simp at h⟩
 | (k,x)::r=>by
  obtain⟨i1,i2⟩:=fY f v r;rw[show bU f v ((k,x)::r)=(if k=f then(k,v)::r else(k,x)::bU f v r)from rfl];by_cases hk:k=f
  ·rw[if_pos hk]
   subst hk;exact⟨by simp,λg h=>by simpa using h⟩
  ·rw[if_neg hk]
   refine⟨?_,λg h=>?_⟩
   ·rw[E1]
    exact Eu _ i1
   ·rw[E1]at h ⊢
    rcases EA.mp h with e|e
    ·exact EA.mpr (.inl e)
    ·exact Eu _ (i2 g e)
theorem fZ(f:Str)(v:V):∀fs:List (Str×V),(bU f v fs).length<=fs.length+1
 | []=>by simp[bU]
 | (k,x)::r=>by
  have ih:=fZ f v r;rw[show bU f v ((k,x)::r)=(if k=f then(k,v)::r else(k,x)::bU f v r)from rfl];by_cases hk:k=f
  ·rw[if_pos hk,EB,EB];lia
  ·rw[if_neg hk,EB,EB];lia
theorem RelO.some_of{v:V}{o:Option Value}(r:RelO (some v) o):∃u,o=some u/\RelV v u:=by
 cases o with
 | none=>exact(show False from r).elim
 | some u=>exact⟨u,rfl,r⟩
theorem oH{v:V}{u:Value}(r:RelV v u):K6 u=true:=by
 cases v with
 | non=>cases(show u=Fb from r);rfl
 | bl b=>cases(show u=Hy b from r);rfl
 | int i=>obtain⟨t,e⟩:=(show ∃t,u=GP i t from r);cases e;rfl
 | str x=>obtain⟨t,e⟩:=(show ∃t,u=GC x t from r);cases e;rfl
 | byt b=>obtain⟨t,e⟩:=(show ∃t,u=M8 b t from r);cases e;rfl
 | flt b=>obtain⟨t,e⟩:=(show ∃t,u=K1 b t from r);cases e;rfl
 | ref a=>cases(show u=ES a from r);rfl
 | ty n=>cases(show u=FY n from r);rfl
section
variable{P:Program}{w:World}{H H':Hp}{h h':Heap}{a C dx:Addr}{fs fs':List (Str×V)}
theorem kW(hok:HOk P w H h)(e:H a=some (.ins C dx fs)):∃mA,ObjM h a dx C mA/\(∀f,RelO (fs.lookup f) (mA f))/\Kk mA (fs.map (·.1))/\fs.length<=1000/\H dx=some (.own a):=by
 obtain⟨d,z,ne,ob,mA,n,r,q⟩:=(show ObjOk P w H h a (.ins C dx fs)from hok a _ e);exact⟨mA,⟨ob,n,ne⟩,r,q,z,d⟩
end
structure Cls (K:Ec) (C:Addr):Prop where
 pg:Ht K C Ge=true
 hd:Hk K C=true
 po:IT K C=true
 sa:Fj K (.ref C) "__setattr__" = some (some (.builtin "object.__setattr__"))
theorem Cls.get{K:Ec}{C:Addr}(c:Cls K C)(f:Str):Ht K C f=true:=c.pg
def NoAttr(K:Ec)(C:Addr)(f:Str):Prop:=Fj K (.ref C) f=some none
theorem NoAttr.taker{K:Ec}{C:Addr}{f:Str}(n:NoAttr K C f):Ju K C f=some none:=by
 unfold Ju;rw[show Fj K (.ref C) f=some none from n];rfl
section
variable{X:Cx}{pins:List (Addr×Obj)}{σ:St}{H:Hp}{s:Shared}{a C dx:Addr}{fs:List (Str×V)}{f:Str}{v:V}{A:Around}{E:Value->Shared->Prop}
theorem nA{b:Bool}{Q:Value->Shared->Prop}(I:Inv X pins σ H s)(e:H a=some (.ins C dx fs))(c:Cls X.K C)(n:NoAttr X.K C f)(l:fs.lookup f=some v)
  (h:∀u s',Inv X pins σ H s'->RelV v u->Q u s'):wpAny (model X.prog X.w) A (getAttr (.ref a) f b) Q E s:=by
 obtain⟨mA,O,r,_,_,_⟩:=kW I.hok e;obtain⟨u,hu,ru⟩:=RelO.some_of (v:=v) (o:=mA f) (by rw[<-l];exact r f);exact vF I.kIn O (c.get f) c.hd n hu (oH ru) (h u _ (I.tok _) ru)
theorem nB{y:V}{u:Value}{Q:Unit->Shared->Prop}(I:Inv X pins σ H s)(e:H a=some (.ins C dx fs))(c:Cls X.K C)(n:NoAttr X.K C f)(hl:fs.length<1000)(ry:RelV y u)
  (h:∀s',Inv X pins σ (upd H a (.ins C dx (bU f y fs))) s'->Q () s'):wpAny (model X.prog X.w) A (setAttr (.ref a) f u) Q E s:=by
 obtain⟨mA,O,r,wi,_,ho⟩:=kW I.hok e;have hz:(fs.map (·.1)).length<=Oo:=by rw[Ea,Os];lia
 refine vG I.kIn O c.sa c.po n.taker c.hd wi hz λh' O' sb=>h _ ?_
 have hd:∃o,h'.get? dx=some o:=let⟨o,_,_,e',_⟩:=O'.ns;⟨o,e'⟩
 refine I.write (x:=a) (e:=dx) (by rw[e];exact Ek) (.inr ho) (λb q hb z=>(sb.2 b hb).trans z) hd ?_;refine⟨by rw[ar O.ne];exact ho,?_,O.ne,O'.obj,_,O'.ns,λg=>?_,λg hg=>?_⟩
 ·have:=fZ f y fs;lia
 ·show RelO ((bU f y fs).lookup g) (if g=f then some u else mA g)
  rw[fX];by_cases q:g=f
  ·rw[if_pos q,if_pos q];exact ry
  ·rw[if_neg q,if_neg q];exact r g
 ·by_cases q:g=f
  ·rw[q];exact(fY f y fs).1
  ·refine(fY f y fs).2 g (wi g λz=>hg ?_)
   show(if g=f then some u else mA g)=none
   rw[if_neg q];exact z
theorem Inv.made(I:Inv X pins σ H s):Inv X pins σ (upd (upd H s.heap.objs.size (.own (s.heap.objs.size+1))) (s.heap.objs.size+1) (.ins C s.heap.objs.size []))
  { s with heap:=(s.heap.push FF).push (FZ C s.heap.objs.size) }:=by
 have e1:(s.heap.push FF).get? s.heap.objs.size=some FF:=EH s.heap rfl;have e2:((s.heap.push FF).push (FZ C s.heap.objs.size)).get? (s.heap.objs.size+1)=some (FZ C s.heap.objs.size):=by
  have:=EH (s.heap.push FF) (o:=FZ C s.heap.objs.size) rfl
  rwa [Ip]at this
 have e3:(s.heap.push FF).Ns s.heap.objs.size (λ_=>none):=⟨FF,#[],_,e1,rfl,(λe he=>absurd he (by simp)),λ_=>rfl⟩;have I1:=I.laid (a:=s.heap.objs.size) (o:=.own (s.heap.objs.size+1)) (h':=s.heap.push FF) (t':=s.toks) (λb u q=>El _ q) (Ed _) ⟨_,e1⟩;refine I1.laid (a:=s.heap.objs.size+1) (o:=.ins C s.heap.objs.size []) (t':=s.toks) (λb u q=>El _ q) (HX (Ip _ _)) ?_;have ne:s.heap.objs.size≠s.heap.objs.size+1:=EK (Jc _);refine⟨by rw[ar ne,af],Eo _,ne,e2,λ_=>none,(NY e3).at λo q=>El _ q,λ_=>Ek,λy hy=>absurd rfl hy⟩
theorem vH{prog:Program}{w:World}{env:Env}{e:Expr}{f:Str}{pos:Pos}{s:Shared}{Q:Value->Shared->Prop}(hb:Ow e f env (eval e env)=eval e env)
  (h:wpAny (model prog w) A (eval e env) (λo s₁=>wpAny (model prog w) A (getAttr o f true) Q E s₁) E s):wpAny (model prog w) A (eval (.Attribute e f pos) env) Q E s:=
 Attribute_any_ h (by rw[arm_eval_Attribute,hb])
end
def Bs(K:Ec)(ta:TE)(f:Str):TE:=λσ H Q=>ta σ H λx H1=>∃a C dx fs v,x=.ref a/\H1 a=some (.ins C dx fs)/\Cls K C/\NoAttr K C f/\fs.lookup f=some v/\Q v H1
def Bt(K:Ec)(ta tv:TE)(f:Str):TS:=λD σ H=>tv σ H λy H1=>ta σ H1 λx H2=>∃a C dx fs,x=.ref a/\H2 a=some (.ins C dx fs)/\Cls K C/\NoAttr K C f/\fs.length<1000/\
 D.nx σ (upd H2 a (.ins C dx (bU f y fs)))
section
variable{X:Cx}{o e value:Expr}{f:Str}{pos pos' tpos:Pos}{ta tv:TE}
theorem yI(he:PE X e ta)(hb:Ow e f X.env (eval e X.env)=eval e X.env):PE X (.Attribute e f pos) (Bs X.K ta f):=by
 intro pins s σ H Q I h;refine vH hb (thn (he pins s σ H _ I h) λu s1 ⟨x,H1,I1,rx,a,C,dx,fs,v,ex,ea,c,n,l,q⟩=>?_);subst ex;obtain rfl:u=ES a:=rx;exact nA I1 ea c n l λu' s2 I2 ru=>⟨v,H1,I2,ru,q⟩
theorem yJ(ha:PE X o ta)(hv:PE X value tv)(hs:OL value (some (.Attribute o f pos')) pos.line X.env=pure false):PS X (.Assign [.Attribute o f pos'] value pos) (Bt X.K ta tv f):=by
 intro pins s σ H D I h;refine plainObj_wpAny_Assign_Attribute (thn (hv pins s σ H _ I h) λu s1 ⟨y,H1,I1,ry,q⟩=>thn (ha pins s1 σ H1 _ I1 q) λov s2 ⟨x,H2,I2,rx,a,C,dx,fs,ex,ea,c,n,l,q2⟩=>?_) hs;subst ex;obtain rfl:ov=ES a:=rx;exact nB I2 ea c n l ry λs3 I3=>⟨σ,_,I3,q2⟩
end
section
variable{X:Cx}{pins:List (Addr×Obj)}{σ:St}{H:Hp}{s:Shared}{A:Around}{E:Value->Shared->Prop}{Q:Value->Shared->Prop}{c:Value}{b:Bool}
inductive TyOf (K:Ec) (H:Hp):V->Value->Prop where
 | non:TyOf K H .non (.type "NoneType")
 | bl (x:Bool):TyOf K H (.bl x) (.type "bool")
 | int (i:Int):TyOf K H (.int i) (.type "int")
 | str (x:Str):TyOf K H (.str x) (.type "str")
 | flt (x:UInt64):TyOf K H (.flt x) (.type "float")
 | lst {a:Addr}{xs:List V}(e:H a=some (.lst xs)):TyOf K H (.ref a) (.type "list")
 | frz {a:Addr}{o:Obj}{xs:List V}(e:H a=some (.frz o (.lst xs))):TyOf K H (.ref a) (.type "list")
 | tup {a:Addr}{xs:List V}(e:H a=some (.tup xs)):TyOf K H (.ref a) (.type "tuple")
 | dK {a:Addr}{kvs:List (Key×V)}(e:H a=some (.dK kvs)):TyOf K H (.ref a) (.type "dict")
 | dT {a:Addr}{kvs:List (List Key×V)}(e:H a=some (.dT kvs)):TyOf K H (.ref a) (.type "dict")
 | ins {a C dx:Addr}{fs:List (Str×V)}(e:H a=some (.ins C dx fs)) (cl:Cls K C) (ha:Fj K (.ref C) "__class__" = some (some (.builtin "object.__class__")))
   (hn:PySem.W.specialIn K (.builtin "object.__class__") "__get__" = some (some (.builtin "getset_descriptor.__get__"))) (htk:PySem.W.takesIn K (.builtin "object.__class__")=some true)
   (hm:PySem.W.mroIn K C (.type "object")=some true):TyOf K H (.ref a) (.ref C)
theorem oI{x:V}{u t:Value}(I:Inv X pins σ H s)(rx:RelV x u)(ty:TyOf X.K H x t)(e:GK X.K t c=some b)(h:∀tk,Q (.bool b) { s with toks:=tk }):
  wpAny (model X.prog X.w) A (call (.builtin "isinstance") [u,c]) Q E s:=by
 cases ty with
 | non=>cases(show u=Fb from rx);exact Fx IU I.kIn Ek e (λz=>nomatch z) h
 | bl y=>cases(show u=Hy y from rx);exact Fx KO I.kIn Ek e (λz=>nomatch z) h
 | int i=>obtain⟨t,q⟩:=(show ∃t,u=GP i t from rx);cases q;exact Fx Jd I.kIn Ek e (λz=>nomatch z) h
 | str y=>obtain⟨t,q⟩:=(show ∃t,u=GC y t from rx);cases q;exact Fx La I.kIn Ek e (λz=>nomatch z) h
 | flt y=>obtain⟨t,q⟩:=(show ∃t,u=K1 y t from rx);cases q;exact Fx PySem.W.kitx_float I.kIn Ek e (λz=>nomatch z) h
 | @lst a xs ea=>
  cases(show u=ES a from rx);obtain⟨_,_,n,_,h1⟩:=(show ObjOk X.prog X.w H s.heap a (.lst xs)from I.hok a _ ea);exact Fx Hl I.kIn ⟨_,h1,rfl⟩ e (λz=>nomatch z) h
 | @frz a ob xs ea=>
  cases(show u=ES a from rx);obtain⟨_,_,_,n,_,h1⟩:=(show ObjOk X.prog X.w H s.heap a (.frz ob (.lst xs))from I.hok a _ ea);exact Fx Hl I.kIn ⟨_,h1,rfl⟩ e (λz=>nomatch z) h
 | @tup a xs ea=>
  cases(show u=ES a from rx);obtain⟨_,_,_,p⟩:=(show ObjOk X.prog X.w H s.heap a (.tup xs)from I.hok a _ ea);obtain⟨o,h1,h2,_⟩:=p;exact Fx Iu I.kIn ⟨o,h1,h2⟩ e (λz=>nomatch z) h
 | @dK a kvs ea=>
  cases(show u=ES a from rx);obtain⟨_,_,vs,_,p⟩:=(show ObjOk X.prog X.w H s.heap a (.dK kvs)from I.hok a _ ea);obtain⟨o,es,ep,h1,h2,_⟩:=p;exact Fx KP I.kIn ⟨o,h1,h2.1⟩ e (λz=>nomatch z) h
 | @dT a kvs ea=>
  cases(show u=ES a from rx);obtain⟨_,_,xs,_,o,es,ep,h1,h2,_⟩:=(show ObjOk X.prog X.w H s.heap a (.dT kvs)from I.hok a _ ea);exact Fx KP I.kIn ⟨o,h1,h2.1⟩ e (λz=>nomatch z) h
 | @ins a C dx fs ea cl ha hn htk hm=>
  cases(show u=ES a from rx);obtain⟨mA,O,_⟩:=kW I.hok ea;obtain⟨od,J,_⟩:=O.look;exact Fx (PySem.W.kitx_own (cl.get _) cl.hd ha hn htk hm) I.kIn J e (λz=>nomatch z) h
end
structure Room (k:Nat) (A:Around):Prop where
 hd:A.handled=none
 dp:A.depth+3*k+5<recursionLimit
 un:A.units+16*k+200<cLine
 gd:A.guards=some []
theorem Room.mono{j k:Nat}{A:Around}(r:Room k A)(h:j<=k):Room j A:=⟨r.hd,by have:=r.dp;lia,by have:=r.un;lia,r.gd⟩
theorem Room.deeper{k:Nat}{A:Around}(r:Room (k+1) A)(env:Env):Room k (A.deeper env):=
 ⟨r.hd,by have:=r.dp;show A.depth+1+3*k+5<_;lia,by have:=r.un;show A.units+3+16*k+200<_;lia,r.gd⟩
theorem nC {A:Around}{C:Addr}{us:List Value}{kw:List (Str×Value)}:(A.under (.builtin "type.__call__" ⟨.ref C::us,kw⟩)).depth=A.depth+1:=by
 first|rfl|simp[Je,Code.weight,Code.isCreation,MU,Code.isCaller,Na,Kn,guardIds]
theorem nD {A:Around}{C:Addr}{us:List Value}{kw:List (Str×Value)}:(A.under (.builtin "type.__call__" ⟨.ref C::us,kw⟩)).units=A.units+1:=by
 first|rfl|simp[Je,Code.cUnits,Na,Kn]
theorem Room.make {k:Nat}{A:Around}(r:Room (k+1) A) (C:Addr) (us:List Value) (kw:List (Str×Value)):Room k (A.under (.builtin "type.__call__" ⟨.ref C::us,kw⟩)):=
 ⟨r.hd,by have:=r.dp;rw[nC];lia,by have:=r.un;rw[nD];lia,by first|exact r.gd|(simp[Je,Code.guards,MU,guardIds,pushGuards,r.gd])⟩
theorem Room.depth{k:Nat}{A:Around}(r:Room k A):A.depth<recursionLimit:=by have:=r.dp;lia
theorem Room.units{k:Nat}{A:Around}(r:Room k A):A.units+64<cLine:=by have:=r.un;lia
theorem Room.units0{k:Nat}{A:Around}(r:Room k A):A.units<cLine:=by have:=r.un;lia
def yK:TA:=λ_ H Q=>Q [] H
def nE(ta:TE)(tr:TA):TA:=λσ H Q=>ta σ H λx H1=>tr σ H1 λxs H2=>Q (x::xs) H2
section
variable{X:Cx}{e:Expr}{es:List Expr}{te:TE}{t:TA}{pos:Pos}
theorem yL:PA X [] yK:=λ_ _ _ _ H Q I h=>KQ ⟨[],H,I,.nil,h⟩
theorem vI(ha:PE X e te)(hr:PA X es t)(hs:Ot (e::es) X.env=(false,eval e X.env)::Ot es X.env:=by rfl):PA X (e::es) (nE te t):=by
 intro pos pins s σ H Q I h;rw[hs];show wpAny _ _ (spliced ((false,eval e X.env)::backTo pos (Ot es X.env))) _ _ s
 refine Ko (thn (ha pins s σ H _ I h) λu s1 ⟨x,H1,I1,r1,q1⟩=>?_);exact thn (hr pos pins s1 σ H1 _ I1 q1) λus s2 ⟨xs,H2,I2,r2,q2⟩=>⟨x::xs,H2,I2,.cons r1 r2,q2⟩
def Bu(t:TA):TE:=λσ H Q=>t σ H λxs H1=>xs.length<=Oo/\∀p,H1 p=none->Q (.ref p) (upd H1 p (.tup xs))
def Bv(t:TA):TE:=λσ H Q=>t σ H λxs H1=>xs.length<=Oo/\∀p,H1 p=none->Q (.ref p) (upd H1 p (.lst xs))
theorem yM{x1}(h:PA X es t):PE X (.Tuple es x1 pos) (Bu t):=by
 intro pins s σ H Q I hq;refine wpAny_Tuple_spliced (thn (h pos pins s σ H _ I hq) λus s1 ⟨xs,H1,I1,r,z,q⟩=>⟨by rw[<-r.length];exact z,?_⟩);have hf:H1 s1.heap.objs.size=none:=I1.hok.fresh (Ed _);refine⟨.ref s1.heap.objs.size,upd H1 s1.heap.objs.size (.tup xs),I1.laid (t':=s1.toks) (λb u e=>El _ e) (Ed _) ?_,rfl,q _ hf⟩;exact⟨z,us,r,⟨_,EH _ rfl,rfl,_,rfl⟩⟩
theorem yN(h:PA X es t):PE X (.List es pos) (Bv t):=by
 intro pins s σ H Q I hq;refine wpAny_List_spliced (thn (h pos pins s σ H _ I hq) λus s1 ⟨xs,H1,I1,r,z,q⟩=>⟨by rw[<-r.length];exact z,?_⟩);have hf:H1 s1.heap.objs.size=none:=I1.hok.fresh (Ed _);refine⟨.ref s1.heap.objs.size,upd H1 s1.heap.objs.size (.lst xs),I1.laid (t':=s1.toks) (λb u e=>El _ e) (Ed _) ?_,rfl,q _ hf⟩;exact⟨z,us,0,r,EH _ rfl⟩
end
noncomputable abbrev Sp:=List V->Hp->VK->XK->Prop
noncomputable abbrev CXT:=List Env->Hp->Shared->XK->Value->Shared->Prop
structure Env0 (P:Program) (w:World) (K:Ec) (mg:Str->Option Value) (base:Heap) (A:Around) (outer:List Env) (s:Shared) (H:Hp):Prop where
 frames:A.frames=some outer
 mod:Mod K mg base
 bs:∀b o,base.get? b=some o->s.heap.get? b=some o/\H b=none
 bsz:base.objs.size<=s.heap.objs.size
 funs:s.heap.FunFrames base outer
 frf:∀b∈frs outer,H b=none
 hok:HOk P w H s.heap
 bare:AllBare s.gens
def CE(outer:List Env)(P:Program)(w:World)(H:Hp)(s:Shared)(Q:VK)(u:Value)(s':Shared):Prop:=
 ∃v H',s'.os=s.os/\AllBare s'.gens/\Un (frs outer) [] H H' s.heap s'.heap/\HOk P w H' s'.heap/\RelV v u/\Q v H'
def CR(CX:CXT)(outer:List Env)(P:Program)(w:World)(H:Hp)(s:Shared)(Q:VK)(E:XK)(r:Result)(s':Shared):Prop:=
 match r with
 | .ok (.ret u)=>CE outer P w H s Q u s'
 | .ok _=>False
 | .error e=>CX outer H s E e s'
structure FnOk (P:Program) (w:World) (K:Ec) (mg:Str->Option Value) (base:Heap) (CX:CXT) (k:Nat) (f:Addr) (fd:FuncData) (ps:List Str) (sp:Sp):Prop where
 len:∀vs H Q E,sp vs H Q E->vs.length=ps.length
 run:∀(A:Around) (outer:List Env) (s:Shared) (H:Hp) (args:Args) (us:List Value) (vs:List V) (Q:VK) (E:XK),Room k A->Env0 P w K mg base A outer s H->BindsTo s fd args (ps.zip us)->Vals vs us->sp vs H Q E->
  codeAny (model P w) A (.call (.ref f) args) (CR CX outer P w H s Q E) s
theorem Env0.make{P:Program}{w:World}{K:Ec}{mg:Str->Option Value}{base:Heap}{A:Around}{outer:List Env}{s:Shared}{H:Hp}(e:Env0 P w K mg base A outer s H)(C:Addr)(us:List Value)(kw:List (Str×Value)):
  Env0 P w K mg base (A.under (.builtin "type.__call__" ⟨.ref C::us,kw⟩)) outer s H:=⟨by first | exact e.frames | (simpa [Je,Code.envs,Kn,pushEnvs]using e.frames),e.mod,e.bs,e.bsz,e.funs,e.frf,e.hok,e.bare⟩
section
variable{X:Cx}{pins:List (Addr×Obj)}{σ:St}{H:Hp}{s s':Shared}
theorem Inv.env0(I:Inv X pins σ H s):Env0 X.prog X.w X.K X.mg X.base X.A X.stack s H:=
 ⟨I.ok.frames,I.ok.mod,I.bs,E5 I.ok.bsz I.sz,I.stack,I.stkFree,I.hok,I.bare⟩
theorem Inv.after{Q:VK}{u:Value}(I:Inv X pins σ H s)(h:CE X.stack X.prog X.w H s Q u s'):EP X pins σ Q u s':=by
 obtain⟨v,H',os,bare,un,hok,r,q⟩:=h;obtain⟨hh,g,d,t,os'⟩:=s';obtain rfl:os'=s.os:=os;exact⟨v,H',I.call (h':=hh) (g':=g) (d':=d) (t':=t) (ch:=[]) un hok bare (λb z=>absurd z (by simp)),r,q⟩
end
def oJ(sp:Sp)(dvs:List V)(E:XK)(t:TA):TE:=λσ H Q=>t σ H λvs H1=>sp (vs++dvs) H1 Q E
def vJ(C:Addr)(sp:Sp)(dvs:List V)(E:XK)(t:TA):TE:=λσ H Q=>t σ H λvs H1=>∀x dx,H1 x=none->H1 dx=none->dx≠x->
 sp (.ref x::(vs++dvs)) (upd (upd H1 dx (.own x)) x (.ins C dx [])) (λv H2=>v=.non/\Q (.ref x) H2) E
def Binds(K:Ec)(fd:FuncData)(ps:List Str)(ds:List Value):Prop:=
 ∀(s:Shared) (us:List Value),K.In s.heap->(us++ds).length=ps.length->BindsTo s fd ⟨us,[]⟩ (ps.zip (us++ds))
theorem Binds.all{K:Ec}{fd:FuncData}{ps:List Str}(h:∀us:List Value,us.length=ps.length->bindArgs fd ⟨us,[]⟩=pure (ps.zip us)):Binds K fd ps []:=λs us _ hl=>by
 rw[Fl]at hl ⊢;exact .of_eq (h us hl)
def eD(CX:CXT)(X:Cx)(E:XK):Prop:=∀(pins:List (Addr×Obj)) (σ:St) (H:Hp) (s:Shared) (e:Value) (s':Shared),Inv X pins σ H s->CX X.stack H s E e s'->X.xe e s'
section
variable{X:Cx}{CX:CXT}{k:Nat}{f C:Addr}{fd:FuncData}{ps:List Str}{sp:Sp}{dvs:List V}{ds:List Value}{E:XK}{x m:Str}{p pos apos:Pos}{e o:Expr}{es:List Expr}{ta:TE}{t:TA}
theorem ur{pins:List (Addr×Obj)}{σ:St}{H:Hp}{s:Shared}{Q:VK}{us:List Value}{vs:List V}(F:FnOk X.prog X.w X.K X.mg X.base CX k f fd ps sp)(hr:Room k X.A)(hb:Binds X.K fd ps ds)(hd:Vals dvs ds)(hx:eD CX X E)
  (I:Inv X pins σ H s) (r:Vals vs us) (h:sp (vs++dvs) H Q E):wpAny (model X.prog X.w) X.A (call (.ref f) us) (EP X pins σ Q) X.xe s:=by
 have r2:Vals (vs++dvs) (us++ds):=r.append hd;have hl:(us++ds).length=ps.length:=by rw[<-r2.length];exact F.len _ _ _ _ h
 refine wpAny_call (codeAny_mono (F.run X.A X.stack s H ⟨us,[]⟩ (us++ds) (vs++dvs) Q E hr I.env0 (hb s us I.kIn hl) r2 h) λr s' hq=>?_);cases r with
 | error e=>exact hx pins σ H s e s' I hq
 | ok fl=>
  cases fl with
  | ret u=>exact I.after hq
  | next=>exact FI hq
  | brk=>exact FI hq
  | cont=>exact FI hq
theorem vK(F:FnOk X.prog X.w X.K X.mg X.base CX k f fd ps sp)(hr:Room k X.A)(hg:Gl X x)(hm:X.mg x=some (.ref f))(hk:FU X.K (.ref f)=true)(hb:Binds X.K fd ps ds)(hd:Vals dvs ds)(hx:eD CX X E)
  (ha:PA X (e::es) t) (hdb:(x == ("__debug__" : Str))=false:=by decide) (he:Ot (e::es) X.env=(false,eval e X.env)::Ot es X.env:=by rfl) (hpl:(backTo pos (Ot es X.env)).any (·.1)=false:=by rfl) :
  PE X (.Call (.Name x p) (e::es) [] pos) (oJ sp dvs E t):=by
 intro pins s σ H Q I h;refine OH (kR I hg hm ?_ hdb);refine Iv (h₀:=X.base) I.ok.mod.kin hk (thn (ha pos pins s σ H _ I h) λus s1 ⟨vs,H1,I1,r,q⟩=>⟨I1.kIn,?_⟩) he hpl;exact ur F hr hb hd hx I1 r q
structure Mk (K:Ec) (C f:Addr):Prop where
 makes:Jv K C=true
 init:Fj K (.ref C) "__init__" = some (some (.ref f))
 fn:MV K (.ref f)=true
 kp:FU K (.ref C)=true
theorem rp{pins:List (Addr×Obj)}{σ:St}{H:Hp}{s:Shared}{Q:VK}{us:List Value}{vs:List V}(M:Mk X.K C f)(F:FnOk X.prog X.w X.K X.mg X.base CX k f fd ps sp)(hr:Room (k+1) X.A)(hb:Binds X.K fd ps ds)(hd:Vals dvs ds)
  (hx:eD CX X E) (I:Inv X pins σ H s) (r:Vals vs us)
  (h:∀x dx,H x=none->H dx=none->dx≠x->sp (.ref x::(vs++dvs)) (upd (upd H dx (.own x)) x (.ins C dx [])) (λv H2=>v=.non/\Q (.ref x) H2) E) :
  wpAny (model X.prog X.w) X.A (call (.ref C) us) (EP X pins σ Q) X.xe s:=by
 have hq:=h (s.heap.objs.size+1) s.heap.objs.size (I.hok.fresh (GV _)) (I.hok.fresh (Ed _)) (EK (Jc _));have I2:=Inv.made (C:=C) I;have r2:Vals (V.ref (s.heap.objs.size+1)::(vs++dvs)) (ES (s.heap.objs.size+1)::(us++ds)):=.cons rfl (r.append hd);have hl:(ES (s.heap.objs.size+1)::us++ds).length=ps.length:=by
  have e:=r2.length;rw[F.len _ _ _ _ hq]at e;exact e.symm
 refine wpAny_call (rn (f:=f) I.kIn M.makes M.init (beq_iff_eq.mp M.fn) (codeAny_mono (F.run _ X.stack _ _ ⟨ES (s.heap.objs.size+1)::us,[]⟩ (ES (s.heap.objs.size+1)::(us++ds)) _ _ E (hr.make C us [])
  (I2.env0.make C us []) (hb _ (ES (s.heap.objs.size+1)::us) I2.kIn hl) r2 hq) λr s' hq'=>?_))
 cases r with
 | error e=>exact hx pins σ _ _ e s' I2 hq'
 | ok fl=>
  cases fl with
  | ret u=>
   obtain⟨v,H',I3,rv,ev,q3⟩:=I2.after hq';subst ev;exact⟨rv,⟨V.ref (s.heap.objs.size+1),H',I3,rfl,q3⟩⟩
  | next=>exact FI hq'
  | brk=>exact FI hq'
  | cont=>exact FI hq'
theorem vL(M:Mk X.K C f)(F:FnOk X.prog X.w X.K X.mg X.base CX k f fd ps sp)(hr:Room (k+1) X.A)(hg:Gl X x)(hm:X.mg x=some (.ref C))(hb:Binds X.K fd ps ds)(hd:Vals dvs ds)(hx:eD CX X E)
  (ha:PA X (e::es) t) (hdb:(x == ("__debug__" : Str))=false:=by decide) (he:Ot (e::es) X.env=(false,eval e X.env)::Ot es X.env:=by rfl) (hpl:(backTo pos (Ot es X.env)).any (·.1)=false:=by rfl) :
  PE X (.Call (.Name x p) (e::es) [] pos) (vJ C sp dvs E t):=by
 intro pins s σ H Q I h;refine OH (kR I hg hm ?_ hdb);refine Iv (h₀:=X.base) I.ok.mod.kin M.kp (thn (ha pos pins s σ H _ I h) λus s1 ⟨vs,H1,I1,r,q⟩=>⟨I1.kIn,?_⟩) he hpl;exact rp M F hr hb hd hx I1 r q
end
section
variable{X:Cx}{CX:CXT}{k:Nat}{f C:Addr}{fd:FuncData}{ps ks:List Str}{sp:Sp}{E:XK}{x m:Str}{p pos apos kpos:Pos}{e o:Expr}{es:List Expr}{kws:List Keyword}{te ta:TE}{t tk:TA}{nm:Option Str}
variable{g:List Value->List Value->List Value}{gV:List V->List V->List V}
end
structure FnScope (N P:List Str) (sc:Scope):Prop where
 kind:sc.kind=.function
 co:sc.isCoroutine=false
 gen:sc.isGenerator=false
 nd:N.Nodup
 pre:N.take P.length=P
 par:∀x∈P,sc.names.lookup x=some .local\/sc.names.lookup x=some .cell
 nofree:∀y∈sc.names,y.2≠.free
theorem jx{kindOf:Str->Option NameKind}{x:Str}:∀{binds:List (Str×Value)}{m:Str->Option Value},(∀v,(x,v)∉binds)->bindL kindOf binds m x=m x
 | [],_,_=>rfl
 | (n,v)::r,m,h=>by
  unfold bindL;rw[jx λw hw=>h w (Eu _ hw)];split
  ·have:x≠n:=by rintro rfl;exact h v EL
   simp[this]
  ·rfl
theorem jy{kindOf:Str->Option NameKind}{x:Str}:∀{binds:List (Str×Value)}{m:Str->Option Value},(∀v,(x,v)∉binds)->bindC kindOf binds m x=m x
 | [],_,_=>rfl
 | (n,v)::r,m,h=>by
  unfold bindC;rw[jy λw hw=>h w (Eu _ hw)];split
  ·rfl
  ·have:x≠n:=by rintro rfl;exact h v EL
   simp[this]
theorem jz{kindOf:Str->Option NameKind}{x:Str}{v:Value}:∀{P:List Str}{vs:List Value}{i:Nat}{m:Str->Option Value},P.Nodup->P[i]? = some x->vs[i]? = some v->kindOf x=some .local->
  bindL kindOf (P.zip vs) m x=some v
 | [],_,_,_,_,h,_,_=>by simp at h
 | _::_,[],_,_,_,_,h,_=>by simp at h
 | p::P,w::vs,0,m,nd,h1,h2,hk=>by
  simp at h1 h2;subst h1;subst h2;show bindL kindOf ((p,w)::P.zip vs) m p=_
  unfold bindL;rw[jx λv hv=>(Gi.mp nd).1 (Jw hv).1,if_pos hk];simp
 | p::P,w::vs,i+1,m,nd,h1,h2,hk=>by
  show bindL kindOf ((p,w)::P.zip vs) m x=_
  unfold bindL;exact jz (i:=i) (Gi.mp nd).2 (by simpa using h1) (by simpa using h2) hk
theorem jA{kindOf:Str->Option NameKind}{x:Str}{v:Value}:∀{P:List Str}{vs:List Value}{i:Nat}{m:Str->Option Value},P.Nodup->P[i]? = some x->vs[i]? = some v->kindOf x≠some .local->
  bindC kindOf (P.zip vs) m x=some v
 | [],_,_,_,_,h,_,_=>by simp at h
 | _::_,[],_,_,_,_,h,_=>by simp at h
 | p::P,w::vs,0,m,nd,h1,h2,hk=>by
  simp at h1 h2;subst h1;subst h2;show bindC kindOf ((p,w)::P.zip vs) m p=_
  unfold bindC;rw[jy λv hv=>(Gi.mp nd).1 (Jw hv).1,if_neg hk];simp
 | p::P,w::vs,i+1,m,nd,h1,h2,hk=>by
  show bindC kindOf ((p,w)::P.zip vs) m x=_
  unfold bindC;exact jA (i:=i) (Gi.mp nd).2 (by simpa using h1) (by simpa using h2) hk
noncomputable def start(N:List Str)(vs:List V):St:=vs.map some++Er (N.length - vs.length) none
noncomputable def uu(CX:CXT)(P:Program)(w:World)(K:Ec)(mg:Str->Option Value)(base:Heap)(N:List Str)(qual:Str)(scope:Scope)(f:Addr)(cd:Value)(A:Around)(outer:List Env)(s:Shared)(H:Hp)(E:XK):Cx where
 prog:=P
 w:=w
 K:=K
 mg:=mg
 base:=base
 A:=A.deeper (envOfC qual scope s.heap.objs.size f cd)
 N:=N
 s₀:=s
 H₀:=H
 env:=envOfC qual scope s.heap.objs.size f cd
 outer:=outer
 stack:=envOfC qual scope s.heap.objs.size f cd::outer
 ex:=[]
 calm:=true
 fn:=λ_=>true
 pn:=[]
 xe:=λe s'=>wpAny (model P w) (A.deeper (envOfC qual scope s.heap.objs.size f cd)) (leaving (envOfC qual scope s.heap.objs.size f cd) e) (λ_ s''=>CX outer H s E e s'') (λe' s''=>CX outer H s E e' s'') s'
theorem l9{sc:Scope}{n:Nat}{x:Str}(h:sc.names.lookup x=some .cell):∃c,(cellsFrom n sc.names []).lookup x=some c:=by
 have q:=JD sc.names n [] (.inl h);exact Gs.mp q
theorem oK{CX:CXT}{P:Program}{w:World}{K:Ec}{mg:Str->Option Value}{base:Heap}{N ps:List Str}{qual:Str}{scope:Scope}{f:Addr}{cd:Value}{A:Around}{outer:List Env}{s s1:Shared}{H:Hp}{E:XK}{us:List Value}{vs:List V}
  (S:FnScope N ps scope) (hd:A.handled=none) (e0:Env0 P w K mg base A outer s H) (hl:vs.length=ps.length) (r:Vals vs us)
  (x:InCallC s s.heap.objs.size (bindL (envOfC qual scope s.heap.objs.size f cd).kindOf (ps.zip us) λ_=>none) (cellsFrom (s.heap.objs.size+1) scope.names []) (bindC (envOfC qual scope s.heap.objs.size f cd).kindOf (ps.zip us) λ_=>none) s1) :
  Inv (uu CX P w K mg base N qual scope f cd A outer s H E) [] (start N vs) H s1:=by
 have hpl:ps.length<=N.length:=by have:=congrArg Gq S.pre;rw[EI]at this;lia
 obtain⟨h1,tk,rfl,hk⟩:=x.done;have noA:∀b:Addr,b∉(uu CX P w K mg base N qual scope f cd A outer s H E).ex:=λb z=>absurd (show b∈([]:List Addr)from z) (by simp)
 refine⟨⟨e0.mod,S.kind,rfl,rfl,Ed _,λy z c h1 h2=>?_,λy hy=>?_,λy c _ h=>?_,λ_=>hd,Around.frames_deeper e0.frames,.inr ⟨rfl,rfl⟩,λb z=>absurd z (noA b),e0.bs,e0.bsz,λb _ _=>noA b,λb z=>absurd z (noA b),e0.funs,e0.frf⟩,
  rfl,e0.bare,Un.kept hk,⟨_,x.toInCall.ns,λi y v h1 h2 h3=>?_⟩,λy c h=>⟨_,x.cell y c h⟩,e0.hok.fresh (Ed _),λy c h=>?_,λp hp=>absurd (show p∈([]:List (Addr×Obj))from hp) (by simp),e0.hok.kept hk,?_⟩
 ·exact name_of_addr x.apart (F8 h1) (F8 h2)
 ·have hy:scope.names.lookup y=some .cell\/scope.names.lookup y=some .free:=hy
  rcases hy with hy|hy
  ·exact l9 hy
  ·exact absurd rfl (S.nofree _ (F8 hy))
 ·exact GJ (x.above y c (F8 h))
 ·have hi:i<vs.length:=by
   unfold start at h2;by_cases hi:i<vs.length
   ·exact hi
   ·rw[Ey (by simpa using hi)]at h2
    rw[Hg]at h2;split at h2<;>cases h2
  have ha:vs[i]? = some v:=by
   unfold start at h2;rw[Ep (by simpa using hi),Eh]at h2;cases e:vs[i]? with
   | none=>rw[e]at h2;cases h2
   | some a=>rw[e]at h2;cases h2;rfl
  obtain⟨u,hu,rv⟩:=r.get ha;have hp:ps[i]? = some y:=by
   rw[<-S.pre,G6 ⋯];exact h1
  have ndP:ps.Nodup:=by rw[<-S.pre];exact S.nd.sublist (KR _ _)
  refine⟨u,rv,?_⟩;rcases S.par y (Ez hp)with k|k
  ·exact .inl ⟨k,jz ndP hp hu k⟩
  ·obtain⟨c,e⟩:=l9 (n:=s.heap.objs.size+1) k
   refine .inr ⟨.inl k,c,e,?_⟩;have q:=x.cell y c e;rw[jA ndP hp hu (by show scope.names.lookup y≠_;rw[k];decide)]at q;exact q
 ·exact e0.hok.fresh (GJ (x.above y c (F8 h)))
 ·unfold start
  show _=N.length
  rw[En,Ea,E3];lia
theorem Bw{CX:CXT}{P:Program}{w:World}{K:Ec}{mg:Str->Option Value}{base:Heap}{k:Nat}{f:Addr}{name qual:Str}{params:Arguments}{body:List Stmt}{scope:Scope}{dV kV doc pm cdv ct oc:Value}{an od:Option Addr}
  {osl:Array (Option Value)}{N ps:List Str}{sp:Sp}(lk:K.lookup f=some ⟨oc,od,.func (Gf name qual params body scope dV kV doc pm an cdv ct),osl⟩) (hcd:Iq K cdv qual=true) (S:FnScope N ps scope)
  (len:∀vs H Q E,sp vs H Q E->vs.length=ps.length)
  (hbody:∀(A:Around) (outer:List Env) (s:Shared) (H:Hp) (vs:List V) (Q:VK) (E:XK),Room k (A.deeper (envOfC qual scope s.heap.objs.size f cdv))->sp vs H Q E->
   ∃t,PSs (uu CX P w K mg base N qual scope f cdv A outer s H E) body t/\t { nx:=λ_ H'=>Q .non H',rt:=Q } (start N vs) H) :
  FnOk P w K mg base CX (k+1) f (Gf name qual params body scope dV kV doc pm an cdv ct) ps sp:=by
 refine⟨len,λA outer s H args us vs Q E hr e0 hb r hsp=>?_⟩;have hl:=len _ _ _ _ hsp;have KX:K.In s.heap:=e0.mod.kin.keeps λb o e=>(e0.bs b o e).1
 have lim:s.heap.NoLimit:=e0.mod.nolimit.keeps λb o e=>(e0.bs b o e).1
 have hkind:∀y∈ps.zip us,scope.names.lookup y.1=some .local\/(scope.names.lookup y.1=some .cell/\((cellsFrom (s.heap.objs.size+1) scope.names []).lookup y.1).isSome=true):=λ⟨n,v⟩ hy=>by
  rcases S.par n (Jw hy).1 with q|q
  ·exact .inl q
  ·exact .inr ⟨q,JD _ _ _ (.inl q)⟩
 refine codeAny_call_function hr.depth (KX _ _ lk) rfl S.co S.gen rfl (PySem.W.codeRec_of KX hcd) (hb _ _ _ _ ?_);refine wpAny_newFunctionEnv_cells S.kind hkind λenv he s1 x=>?_
 subst he;refine⟨lim.keeps x.toInCall.keep,codeAny_func ?_⟩;obtain⟨t,ht,hq⟩:=hbody A outer s H vs Q E (hr.deeper _) hsp;have I:Inv (uu CX P w K mg base N qual scope f cdv A outer s H E) [] (start N vs) H s1:=oK S hr.hd e0 hl r x;refine Oy (ht [] s1 (start N vs) H _ I hq) (λfl s' hs=>?_) λe s' hs=>hs
 have fin:∀{σ':St}{H':Hp}{v:V}{u:Value},Inv (uu CX P w K mg base N qual scope f cdv A outer s H E) [] σ' H' s'->RelV v u->Q v H'->CE outer P w H s Q u s':=
  λ{σ' H' v u} J rv q=>⟨v,H',J.os,J.bare,J.base,J.hok,rv,q⟩
 cases fl with
 | ret u=>
  obtain⟨v,σ',H',J,rv,q⟩:=hs;exact fin J rv q
 | next=>
  obtain⟨σ',H',J,q⟩:=hs;exact fin (v:=V.non) (u:=Fb) J rfl q
 | brk=>
  obtain⟨_,_,_,q⟩:=hs;exact FI q
 | cont=>
  obtain⟨_,_,_,q⟩:=hs;exact FI q
section
variable{X:Cx}{x:Str}{p pos:Pos}{e:Expr}{es:List Expr}{t:TA}{id T:String}{r:List V->Hp->VK->Prop}
def tCB(r:List V->Hp->VK->Prop)(t:TA):TE:=λσ H Q=>t σ H λvs H1=>r vs H1 Q
theorem rq (hc:bQ X (.builtin id) r) (hg:Gl X x) (hm:X.mg x=none) (hv:bootBuiltins x=some (.builtin id)) (ha:PA X (e::es) t) (hn:x≠"__name__":=by decide) (hdb:(x == ("__debug__" : Str))=false:=by decide)
  (he:Ot (e::es) X.env=(false,eval e X.env)::Ot es X.env:=by rfl) (hpl:(backTo pos (Ot es X.env)).any (·.1)=false:=by rfl):PE X (.Call (.Name x p) (e::es) [] pos) (tCB r t):=by
 intro pins s σ H Q I h;refine OH (dr I hg hm hv ?_ hn hdb);exact Lu (thn (ha pos pins s σ H _ I h) λus s1 ⟨vs,H1,I1,r1,q1⟩=>hc pins s1 σ H1 vs us Q I1 r1 q1) he hpl
theorem oM (hc:bQ X (.type T) r) (hg:Gl X x) (hm:X.mg x=none) (hv:bootBuiltins x=some (.type T)) (ha:PA X (e::es) t) (hn:x≠"__name__":=by decide) (hdb:(x == ("__debug__" : Str))=false:=by decide)
  (he:Ot (e::es) X.env=(false,eval e X.env)::Ot es X.env:=by rfl) (hpl:(backTo pos (Ot es X.env)).any (·.1)=false:=by rfl):PE X (.Call (.Name x p) (e::es) [] pos) (tCB r t):=by
 intro pins s σ H Q I h;refine OH (dr I hg hm hv ?_ hn hdb);exact Fd (thn (ha pos pins s σ H _ I h) λus s1 ⟨vs,H1,I1,r1,q1⟩=>hc pins s1 σ H1 vs us Q I1 r1 q1) he hpl
end
end L2
open L2.SqL renaming of→Oe
open L2.SqT renaming of→Of
open L2.V renaming int→Og,str→Oh,ref→Oi
open PySem PySem.Spec PyProof.Rows L2
variable{j n t' c k i tk iy b m:Nat}{its us:List Value}{xs ys vs:List V}{p l a C q:Addr}{σ:L2.St}{pins:List (Addr×Obj)}{u:Value}{h:Heap}{x qual y z kd:Str}{P:Program}{X:Cx}{H1 H':Hp}{o:HO}{v:V}{fp ch ps qs:List Addr}{elt cnd iter tg e:Expr}{E:Value->Shared->Prop}{tc:TT}{g:TG}{wi:TI}{pos pos' py spos:Pos}{s':Shared}{Q:VK}{to ti ta tb:TE}{t:TA}{scope:Scope}{zs cs ob:List Nat}{ms:List Int}{rss:List (List Nat)}
namespace HT
open PySem PyProof.Rows
noncomputable def bG:List Int->List Int->Bool
 | [],[]=>false
 | [],_::_=>true
 | _::_,[]=>false
 | x::xs,y::ys=>if x=y then bG xs ys else decide (x<y)
theorem aX(x y:Int)(xs ys:List Int):bG (x::xs) (y::ys)=if x=y then bG xs ys else decide (x<y):=rfl
theorem eE:bG [] []=false:=rfl
theorem gQ(y:Int)(ys:List Int):bG [] (y::ys)=true:=rfl
theorem gR(x:Int)(xs:List Int):bG (x::xs) []=false:=rfl
theorem md(A:Around)(s:Shared)(a:Int)(t:Tok)(c:Int)(u:Tok):∃e,Lv A s (.int a t) (.int c u) e/\(e=true↔a=c):=
 ⟨(a == c),Kp a t c u,by simp⟩
theorem rz(A:Around)(s:Shared)(a:Int)(t:Tok)(c:Int)(u:Tok)(prog:Program)(w:World)(E:Value->Shared->Prop)(Q:Value->Shared->Prop)(h:Q (.bool (decide (a<c))) s):
  wpAny (model prog w) A (richCompare .Lt (.int a t) (.int c u)) Q E s:=
 (NB h:wpAny (model prog w) A (Ou .Lt (.int a t) (.int c u)) Q E s)
section
open PySem.SeqAt
open PySem.AutoSeq1 (wpAny_loadPart')
open PySem.MeetsSeq PySem.MeetsSeq2 PySem.MeetsSeq3
theorem iI(l b:Addr)(items items2:Array Value)(n n2:Nat)(dd dd2:Option Addr)(sl sl2:Array (Option Value))(ns ms:List Int)(hi:Ox items.toList ns)(hj:Ox items2.toList ms):
  Meets (Builtin.«tuple.__lt__» ⟨[.ref l,.ref b],[]⟩)
   (λ_ R s=>s.heap.get? l=some { cls:=.type "tuple",dict:=dd,data:=.seq items n,slots:=sl }/\s.heap.get? b=some { cls:=.type "tuple",dict:=dd2,data:=.seq items2 n2,slots:=sl2 }/\
    R (.ok (.ret (.bool (bG ns ms)))) s):=
 .of_wp λprog w A R s h=>by
  obtain⟨hp,g,d,tk,os⟩:=s;obtain⟨hl,hb,h⟩:=h;have f2:=G7;have z1:items.size=ns.length:=by rw[<-hi.length];simp
  have z2:items2.size=ms.length:=by rw[<-hj.length];simp
  wp_walk using OD hl,OD hb,wpAny_forIn_list _ (λrest b s'=>b.1=none/\s'=⟨hp,g,d,tk,os⟩/\∃(vs ws:List Value) (ns' ms':List Int),rest=vs.zip ws/\
   Ox vs ns'/\Ox ws ms'/\ns'.length+items2.size=ms'.length+items.size/\R (.ok (.ret (.bool (bG ns' ms')))) ⟨hp,g,d,tk,os⟩) _
  case turn=>
   rintro⟨y,x⟩ rest b s' ⟨hb',rfl,vs,ws,ns',ms',hz,hvi,hwi,hlen,hR⟩;cases hvi with
   | nil=>rw[IV]at hz;cases hz
   | cons a t hvi'=>
    cases hwi with
    | nil=>rw[Iw]at hz;cases hz
    | cons c u hwi'=>
     rw[FL]at hz;injection hz with hyx hrest
     injection hyx with hy hx
     subst hy hx;rw[aX]at hR;simp only[EB]at hlen;obtain⟨e,he,hiff⟩:=md A.in1 ⟨hp,g,d,tk,os⟩ a t c u;refine On (he prog w _ _ ?_);cases e with
     | true=>
      rw[if_pos (hiff.mp rfl)]at hR
      wp_walk
      exact⟨rfl,rfl,_,_,_,_,hrest,hvi',hwi',by lia,hR⟩
     | false=>
      rw[if_neg (λq=>absurd (hiff.mpr q) ED)]at hR;have hri:=rz A.in1 ⟨hp,g,d,tk,os⟩ a t c u prog w
      wp_walk using hri
      exact⟨_,rfl,by simpa using hR⟩
  case fin=>
   rintro⟨b1,b2⟩ s' ⟨hb',rfl,vs,ws,ns',ms',hz,hvi,hwi,hlen,hR⟩;simp only at hb';subst hb';have hv:bG ns' ms'=decide (items.size<items2.size):=by
    cases hvi with
    | nil=>
     cases hwi with
     | nil=>
      simp only[Fe]at hlen;rw[eE];exact(decide_eq_false ⋯).symm
     | cons c u hw=>
      simp only[Fe,EB]at hlen;rw[gQ];exact(decide_eq_true ⋯).symm
    | cons a t hv=>
     cases hwi with
     | nil=>
      simp only[Fe,EB]at hlen;rw[gR];exact(decide_eq_false ⋯).symm
     | cons c u hw=>
      rw[FL]at hz;cases hz
   rw[hv]at hR
   wp_walk
   exact⟨_,rfl,by simpa [Hx]using hR⟩
  case h=>
   exact⟨rfl,rfl,items.toList,items2.toList,ns,ms,rfl,hi,hj,by lia,h⟩
end
section
variable{prog:Program}{w:World}{A:Around}{E:Value->Shared->Prop}{s:Shared}
noncomputable def sIx(n d:Nat):Option Int->Nat
 | none=>d
 | some v=>if v<0 then(v+(n:Int)).toNat else min v.toNat n
theorem fb(n d k:Nat):sIx n d (some (k:Int))=min k n:=by
 show(if(k:Int)<0 then((k:Int)+(n:Int)).toNat else min (k:Int).toNat n)=min k n
 rw[if_neg ⋯,Fh]
end
end HT
namespace L2
open PySem PySem.Spec PyProof.Rows
noncomputable abbrev TO:=St->Hp->(Option Int->Hp->Prop)->Prop
def PO(X:Cx)(e:Option Expr)(t:TO):Prop:=
 ∀(pins:List (Addr×Obj)) (s:Shared) (σ:St) (H:Hp) (Q:Option Int->Hp->Prop),Inv X pins σ H s->t σ H Q->
  wpAny (model X.prog X.w) X.A (evalPart e X.env) (λu s'=>∃o H',Inv X pins σ H' s'/\IsPart u o/\Q o H') X.xe s
noncomputable def kX:TO:=λ_ H Q=>Q none H
noncomputable def vM(t:TE):TO:=λσ H Q=>t σ H λx H1=>∃i,x=.int i/\Q (some i) H1
theorem bY{ns:List Int}:∀{us:List Value},Vals (ns.map Og) us->Ox us ns:=by
 induction ns with
 | nil=>intro us r;rw[Jf]at r;cases r;exact .nil
 | cons n ns ih=>
  intro us r;rw[E1]at r;cases r with
  | cons r1 r2=>
   obtain⟨t,e⟩:=r1;subst e;exact .cons n t (ih r2)
section
variable{X:Cx}{e:Expr}{te:TE}{lo hi:Option Expr}{tl th:TO}{pos p2:Pos}
theorem vN:PO X none kX:=by
 intro pins s σ H Q I h;rw[evalPart_none];exact Oq ⟨none,H,I,.none,h⟩
theorem vO(h:PE X e te):PO X (some e) (vM te):=by
 intro pins s σ H Q I hw;rw[evalPart_some];refine thn (h pins s σ H _ I hw) λu s1 ⟨x,H1,I1,r1,q1⟩=>?_
 obtain⟨i,rfl,q⟩:=q1;obtain⟨t,rfl⟩:=r1;exact⟨some i,H1,I1,.int i t,q⟩
def SlR(X:Cx)(r:V->Option Int->Option Int->Hp->VK->Prop):Prop:=
 ∀(pins:List (Addr×Obj)) (s:Shared) (σ:St) (H:Hp) (x:V) (v vl vu:Value) (lo hi:Option Int) (sl:Addr) (Q:VK),Inv X pins σ H s->RelV x v->s.heap.IsSliceOf sl vl vu .none->IsPart vl lo->IsPart vu hi->r x lo hi H Q->
  ∃T id,typeLookup (.type T) "__getitem__" = pure (some (.builtin id))/\s.TypeIs v T/\wpAny (model X.prog X.w) X.A (getItem v (.ref sl)) (EP X pins σ Q) X.xe s
def tSl(r:V->Option Int->Option Int->Hp->VK->Prop)(te:TE)(tl th:TO):TE:=λσ H Q=>te σ H λx H1=>tl σ H1 λl H2=>th σ H2 λu H3=>r x l u H3 Q
theorem rA{r:V->Option Int->Option Int->Hp->VK->Prop}(hr:SlR X r)(he:PE X e te)(hl:PO X lo tl)(hu:PO X hi th):PE X (.Subscript e (.Slice lo hi none p2) pos) (tSl r te tl th):=by
 intro pins s σ H Q I h;refine Subscript_ (thn (he pins s σ H _ I h) λv s1 ⟨x,H1,I1,r1,q1⟩=>?_);refine wpAny_Slice (thn (hl pins s1 σ H1 _ I1 q1) λvl s2 ⟨l,H2,I2,pl,q2⟩=>thn (hu pins s2 σ H2 _ I2 q2) λvu s3 ⟨u,H3,I3,pu,q3⟩=>?_);rw[evalPart_none];refine Oq ?_;have I4:Inv X pins σ H3 { s3 with heap:=s3.heap.push { cls:=.type "slice",data:=.fields #[vl,vu,.none] } }:=I3.kept (t':=s3.toks) λb ob q=>El _ q
 obtain⟨T,id,hT,ht,hg⟩:=hr pins { s3 with heap:=s3.heap.push { cls:=.type "slice",data:=.fields #[vl,vu,.none] } } σ H3 x v vl vu l u s3.heap.objs.size Q I4 r1 (Iy ..) pl pu q3;show wpAny (model X.prog X.w) X.A (subscriptTail e (.Slice lo hi none p2) v (.ref s3.heap.objs.size)) (EP X pins σ Q) X.xe { s3 with heap:=s3.heap.push { cls:=.type "slice",data:=.fields #[vl,vu,.none] } }
 exact tail_any (ops:=[.ref s3.heap.objs.size,v]) ht hT hg (by with_unfolding_all rfl)
noncomputable def kO(xs:List V)(lo hi:Option Int):List V:=(xs.drop (HT.sIx xs.length 0 lo)).take (HT.sIx xs.length xs.length hi - HT.sIx xs.length 0 lo)
theorem kY(xs:List V)(lo hi:Option Int):(kO xs lo hi).length<=xs.length:=by
 unfold kO;rw[EI,Ft];lia
end
noncomputable def ixN(n:Nat)(i:Int):Option Nat:=if 0<=i then(if i<n then some i.toNat else none)else if -(n:Int)<=i then some (i+n).toNat else none
noncomputable def atI{α:Type}(xs:List α)(i:Int):Option α:=(ixN xs.length i).bind λj=>xs[j]?
theorem oN{i:Int}(h:ixN n i=some j):seqIndex? i n=some j/\j<n/\-(n:Int)<=i/\i<n:=by
 unfold ixN at h;by_cases h0:0<=i
 ·rw[if_pos h0]at h
  by_cases h1:i<n
  ·rw[if_pos h1]at h
   have e:i.toNat=j:=EE h;exact⟨by rw[seqIndex_of h0 h1,e],by lia,by lia,h1⟩
  ·rw[if_neg h1]at h;cases h
 ·rw[if_neg h0]at h
  by_cases h1:-(n:Int)<=i
  ·rw[if_pos h1]at h
   have e:(i+n).toNat=j:=EE h;exact⟨by rw[seqIndex_neg ⋯ h1,e],by lia,h1,by lia⟩
  ·rw[if_neg h1]at h;cases h
theorem kZ{α:Type}{xs:List α}{i:Int}{v:α}(h:atI xs i=some v):∃j,seqIndex? i xs.length=some j/\xs[j]? = some v/\j<xs.length/\-(xs.length:Int)<=i/\i<xs.length:=by
 unfold atI at h;cases e:ixN xs.length i with
 | none=>rw[e]at h;cases h
 | some j=>
  rw[e]at h;obtain⟨h1,h2,h3,h4⟩:=oN e;exact⟨j,h1,h,h2,h3,h4⟩
theorem aT{α:Type}{xs:List α}{v:α}(h:xs[j]? = some v):atI xs (j:Int)=some v:=by
 have hj:j<xs.length:=(Ei.mp h).1;have e:ixN xs.length (j:Int)=some j:=by
  unfold ixN;rw[if_pos ⋯,if_pos ⋯];simp
 unfold atI;rw[e];exact h
def oO(b:Expr):Prop:=∀o i,subscripted b false o i=operate [o,i] (getItem o i)
def IxR(X:Cx)(r:R2):Prop:=
 ∀(value slice:Expr) (pins:List (Addr×Obj)) (s:Shared) (σ:St) (H:Hp) (x y:V) (v u:Value) (Q:VK),Inv X pins σ H s->RelV x v->RelV y u->r x y H Q->
  subscripted slice false v u=operate [v,u] (getItem v u)->wpAny (model X.prog X.w) X.A (subscriptTail value slice v u) (EP X pins σ Q) X.xe s
def MtR(X:Cx)(id:String)(r:V->List V->Hp->VK->Prop):Prop:=
 ∀(pins:List (Addr×Obj)) (s:Shared) (σ:St) (H:Hp) (x:V) (xs:List V) (v:Value) (us:List Value) (Q:VK),Inv X pins σ H s->RelV x v->Vals xs us->r x xs H Q->
  wpAny (model X.prog X.w) X.A (call (.builtin id) (v::us)) (EP X pins σ Q) X.xe s
section
variable{X:Cx}{a b:Expr}{ta tb:TE}{pos:Pos}
theorem IxR.or{r r':R2}(h:IxR X r)(h':IxR X r'):IxR X (λx y H Q=>r x y H Q\/r' x y H Q):=by
 intro value slice pins s σ H x y v u Q I rx ry q hs;rcases q with q|q
 ·exact h value slice pins s σ H x y v u Q I rx ry q hs
 ·exact h' value slice pins s σ H x y v u Q I rx ry q hs
theorem Bx{r:R2}(hr:IxR X r)(ha:PE X a ta)(hb:PE X b tb)(hs:oO b):PE X (.Subscript a b pos) (tOp r ta tb):=by
 intro pins s σ H Q I h;exact Subscript_ (Bi ha hb I h λv u s2 x y H2 I2 rx ry q=>hr a b pins s2 σ H2 x y v u Q I2 rx ry q (hs _ _))
def xV(K:Ec):R2:=λx y H Q=>∃p xs i v,x=.ref p/\y=.int i/\SqL K H p xs/\atI xs i=some v/\Q v H
def xW(K:Ec):R2:=λx y H Q=>∃p xs i v,x=.ref p/\y=.int i/\SqT K H p xs/\atI xs i=some v/\Q v H
def By:R2:=λx y H Q=>∃z i c,x=.str z/\y=.int i/\z.length<=Oo/\atI z.cps.toList i=some c/\Q (.str ⟨#[c]⟩) H
theorem ix_list:IxR X (xV X.K):=by
 intro value slice pins s σ H x y v u Q I rx ry h hs;obtain⟨p,xs,i,z,rfl,rfl,hq,he,q⟩:=h;cases rx;obtain⟨t,rfl⟩:=ry;obtain⟨its,r,pl,hz⟩:=I.list hq;obtain⟨j,h1,h2,h3,h4,h5⟩:=kZ he;obtain⟨w,ew,rw'⟩:=r.get h2;have hl:=r.length;have hn:=eC;have fin:EP X pins σ Q w s:=⟨z,H,I,rw',q⟩;by_cases h0:0<=i
 ·have hj:i.toNat=j:=by
   rw[seqIndex_of h0 h5]at h1;exact EE h1
  exact item_listR pl.isList h0 ⋯ (by rw[hj];simpa using ew) fin hs
 ·have hj:(i+(its.toArray.size:Int)).toNat=j:=by
   rw[seqIndex_neg ⋯ h4]at h1;rw[Et,<-hl];exact EE h1
  exact subscriptTail_builtinR (x:=w) pl.isList.typeIs slot_list_getitem.lookup
   (wpAny_getItem_list_neg (Q:=λr s'=>r=w/\EP X pins σ Q r s') pl.isList ⋯ (by rw[Et]<;>lia) ⋯ (by rw[hj];simpa using ew) ⟨rfl,fin⟩) hs
theorem ix_tup:IxR X (xW X.K):=by
 intro value slice pins s σ H x y v u Q I rx ry h hs;obtain⟨p,xs,i,z,rfl,rfl,hq,he,q⟩:=h;cases rx;obtain⟨t,rfl⟩:=ry;obtain⟨its,r,pl,hz⟩:=I.tuple hq;obtain⟨j,h1,h2,h3,h4,h5⟩:=kZ he;obtain⟨w,ew,rw'⟩:=r.get h2;have hl:=r.length;have hn:=eC;have fin:EP X pins σ Q w s:=⟨z,H,I,rw',q⟩;exact subscriptTail_builtinR (x:=w) pl.typeIs slot_tuple_getitem.lookup
  (getItem_tuple (j:=j) (Q:=λr s'=>r=w/\EP X pins σ Q r s') pl ⋯ ⋯ (by rw[Et,<-hl];exact h1) (by simpa using ew) ⟨rfl,fin⟩) hs
theorem uv:IxR X By:=by
 intro value slice pins s σ H x y v u Q I rx ry h hs;obtain⟨z,i,c,rfl,rfl,hz,he,q⟩:=h;obtain⟨t,rfl⟩:=rx;obtain⟨t',rfl⟩:=ry;obtain⟨j,h1,h2,h3,h4,h5⟩:=kZ he;have hl:z.cps.toList.length=z.length:=by simp[J0]
 rw[hl]at h1 h4 h5;have hn:=eC;exact tail_any (OJ s z t) slot_str_getitem.lookup (getItem_str (c:=c) (by
  have e1:decide (i < -(2 ^ 63:Int))=false:=decide_eq_false ⋯;have e2:decide (i>=2 ^ 63)=false:=decide_eq_false ⋯;rw[e1,e2,Bool.or_false]) (by rw[h1];simpa using h2) ⟨.str ⟨#[c]⟩,H,I.tok _,⟨_,rfl⟩,q⟩) hs
def rIx(K:Ec):R2:=λx y H Q=>xV K x y H Q\/xW K x y H Q\/By x y H Q
theorem yO:IxR X (rIx X.K):=ix_list.or (ix_tup.or uv)
theorem nF (its:List Value) (n j:Nat) (u:Value):Fc (·.setIfInBounds j u) { cls:=.type "list",data:=.seq its.toArray n }={ cls:=.type "list",data:=.seq (its.set j u).toArray n }:=by
 simp[Fc]
theorem Inv.lst{pins:List (Addr×Obj)}{σ:St}{H:Hp}{s:Shared}{p:Addr}{xs:List V}(I:Inv X pins σ H s)(h:H p=some (.lst xs)):
  ∃(its:List Value) (n:Nat),Vals xs its/\s.heap.get? p=some { cls:=.type "list",data:=.seq its.toArray n }/\xs.length<=Oo:=by
 obtain⟨z,its,n,r,e⟩:=I.hok p _ h;exact⟨its,n,r,e,z⟩
theorem Inv.lstUpd{H:Hp}{s:Shared}{its':List Value}{n':Nat}{f:Obj->Obj}(I:Inv X pins σ H s)(h:H p=some (.lst xs))
  (ho:s.heap.get? p=some { cls:=.type "list",data:=.seq its.toArray n }) (hf:f { cls:=.type "list",data:=.seq its.toArray n }={ cls:=.type "list",data:=.seq its'.toArray n' }) (r:Vals ys its') (hz:ys.length<=Oo) (t:Nat) :
  Inv X pins σ (upd H p (.lst ys)) { s with heap:=s.heap.update p f,toks:=t }:=by
 have e:(s.heap.update p f).get? p=some { cls:=.type "list",data:=.seq its'.toArray n' }:=by
  rw[Heap.get?_update_self f ho (by rw[hf]<;>rfl),hf]
 refine I.write (x:=p) (e:=p) (by rw[h];trivial) (.inl rfl) (λb u hb q=>(GE _ _ (E2 hb)).trans q) ⟨_,e⟩ ?_;exact⟨hz,its',n',r,e⟩
def k6:V->V->V->Hp->(Hp->Prop)->Prop:=λo i v H Q=>∃p xs k j,o=.ref p/\i=.int k/\H p=some (.lst xs)/\ixN xs.length k=some j/\Q (upd H p (.lst (xs.set j v)))
theorem iJ:Bb X k6:=by
 intro pins s σ H o i v ov iv u Q I ro ri rv h;obtain⟨p,xs,k,j,rfl,rfl,hp,hj,q⟩:=h;cases ro;obtain⟨t,rfl⟩:=ri;obtain⟨its,n,r,ho,hz⟩:=I.lst hp;obtain⟨h1,h2,h3,h4⟩:=oN hj;have hl:=r.length;have hn:=eC;have I':Inv X pins σ (upd H p (.lst (xs.set j v))) { s with heap:=s.heap.update p (Fc (·.setIfInBounds j u)) }:=
  I.lstUpd hp ho (nF its n j u) (r.set rv j) (by rw[Jx];exact hz) s.toks
 by_cases h0:0<=k
 ·have hk:k.toNat=j:=by
   rw[seqIndex_of h0 h4]at h1;exact EE h1
  exact PySem.W.ki_setAt ho h0 ⋯ (by rw[Et,<-hl];exact h4) (by rw[hk];exact⟨_,I',q⟩)
 ·have hk:(k+(its.toArray.size:Int)).toNat=j:=by
   rw[seqIndex_neg ⋯ h3]at h1;rw[Et,<-hl];exact EE h1
  exact PySem.W.ki_setBack ho ⋯ (by rw[Et,<-hl];exact h3) ⋯ (by rw[hk];exact⟨_,I',q⟩)
theorem jB(lo hi:Option Int)(n:Nat):(OM lo hi none n).1=((HT.sIx n 0 lo:Nat):Int)/\(OM lo hi none n).2.1=((HT.sIx n n hi:Nat):Int)/\(OM lo hi none n).2.2=1:=by
 refine⟨?_,?_,rfl⟩
 ·cases lo with
  | none=>simp[OM,HT.sIx]
  | some i=>
   simp only[OM,HT.sIx,Jg,show(1:Int) > 0 by decide,if_true];by_cases h:i<0
   ·simp only[h,if_true]<;>lia
   ·simp only[h,if_false]<;>lia
 ·cases hi with
  | none=>simp[OM,HT.sIx]
  | some i=>
   simp only[OM,HT.sIx,Jg,show(1:Int) > 0 by decide,if_true];by_cases h:i<0
   ·simp only[h,if_true]<;>lia
   ·simp only[h,if_false]<;>lia
theorem iK(its:List Value)(lo hi:Option Int):slicePick its.toArray lo hi none=((its.drop (HT.sIx its.length 0 lo)).take (HT.sIx its.length its.length hi - HT.sIx its.length 0 lo)).toArray:=by
 obtain⟨h1,h2,h3⟩:=jB lo hi its.toArray.size;unfold slicePick;rw[h1,h2,h3];simp only[sliceRange_one,pick_run,Et]<;>rfl
def AH(K:Ec):V->Option Int->Option Int->Hp->VK->Prop:=λx lo hi H Q=>∃a xs,x=.ref a/\SqL K H a xs/\∀p,H p=none->Q (.ref p) (upd H p (.lst (kO xs lo hi)))
theorem vP:SlR X (AH X.K):=by
 intro pins s σ H x v vl vu lo hi sl Q I rx hs pl pu h;obtain⟨a,xs,rfl,hx,q⟩:=h;cases rx;obtain⟨its,r,ht,hz⟩:=I.list hx;have hlen:=r.length;refine⟨"list",_,slot_list_getitem.lookup,ht.isList.typeIs,?_⟩;refine wpAny_getItem_list_slice ht.isList hs pl pu .none (by simp) ?_ (by rw[Et]<;>lia);rw[iK,<-hlen];refine⟨.ref s.heap.objs.size,_,I.laid (t':=s.toks) (o:=.lst (kO xs lo hi)) (λb ob q=>El _ q) (Ed _) ?_,rfl,q _ (I.hok.fresh (Ed _))⟩;exact⟨E5 (kY xs lo hi) hz,_,0,(r.drop (HT.sIx xs.length 0 lo)).take (HT.sIx xs.length xs.length hi - HT.sIx xs.length 0 lo),EH _ rfl⟩
noncomputable def jC:V->Bool
 | .non=>true
 | .bl _=>true
 | .int _=>true
 | .str _=>true
 | _=>false
noncomputable def eqV:V->V->Bool
 | .non,.non=>true
 | .bl a,.bl b=>a == b
 | .bl a,.int b=>(if a then 1 else 0) == b
 | .int a,.bl b=>a == (if b then 1 else 0)
 | .int a,.int b=>a == b
 | .str a,.str b=>a == b
 | _,_=>false
theorem yP{A:Around}{s:Shared}{y x:V}{v:Value}(ry:RelV y u)(rx:RelV x v)(fy:jC y=true)(fx:jC x=true):Lv A s u v (eqV y x):=by
 cases y with
 | non=>
  cases ry;cases x with
  | non=>cases rx;exact N8 _
  | bl b=>cases rx;exact Nq b
  | int b=>obtain⟨t,rfl⟩:=rx;exact NC b t
  | str b=>obtain⟨t,rfl⟩:=rx;exact ND b t
  | _=>exact absurd (show false=true from fx) ED
 | bl a=>
  cases ry;cases x with
  | non=>cases rx;exact Nr a
  | bl b=>cases rx;exact Nt a b
  | int b=>obtain⟨t,rfl⟩:=rx;exact NF a b t
  | str b=>obtain⟨t,rfl⟩:=rx;exact NG a b t
  | _=>exact absurd (show false=true from fx) ED
 | int a=>
  obtain⟨t',rfl⟩:=ry;cases x with
  | non=>cases rx;exact NH a t'
  | bl b=>cases rx;exact NI a t' b
  | int b=>obtain⟨t,rfl⟩:=rx;exact Kp a t' b t
  | str b=>obtain⟨t,rfl⟩:=rx;exact Ki a t' b t
  | _=>exact absurd (show false=true from fx) ED
 | str a=>
  obtain⟨t',rfl⟩:=ry;cases x with
  | non=>cases rx;exact NJ a t'
  | bl b=>cases rx;exact NK a t' b
  | int b=>obtain⟨t,rfl⟩:=rx;exact Kj a t' b t
  | str b=>obtain⟨t,rfl⟩:=rx;exact NQ a t' b t
  | _=>exact absurd (show false=true from fx) ED
 | _=>exact absurd (show false=true from fy) ED
noncomputable def eqU(x:V)(u:Value):Bool:=match u with
 | .none=>eqV .non x
 | .bool b=>eqV (.bl b) x
 | .int i _=>eqV (.int i) x
 | .str z _=>eqV (.str z) x
 | _=>false
theorem uw{x y:V}(r:RelV y u)(f:jC y=true):eqU x u=eqV y x:=by
 cases y with
 | non=>cases r;rfl
 | bl b=>cases r;rfl
 | int i=>obtain⟨t,rfl⟩:=r;rfl
 | str z=>obtain⟨t,rfl⟩:=r;rfl
 | _=>exact absurd (show false=true from f) ED
theorem k7{x:V}:∀{xs:List V}{us:List Value},Vals xs us->xs.all jC=true->us.any (eqU x)=xs.any λy=>eqV y x
 | _,_,.nil,_=>rfl
 | y::xs,u::us,.cons r t,f=>by
  rw[GB,Fu]at f;rw[Mm,Mm,uw r f.1,k7 t f.2]
theorem iL{A:Around}{s:Shared}{x:V}{v:Value}(rx:RelV x v)(fx:jC x=true):∀{xs:List V}{us:List Value},Vals xs us->xs.all jC=true->∀u∈us,Lv A s u v (eqU x u)
 | _,_,.nil,_=>λu hu=>by cases hu
 | y::xs,u::us,.cons r t,f=>λu' hu=>by
  rw[GB,Fu]at f;rcases EA.mp hu with rfl|hu
  ·rw[uw r f.1];exact yP r rx f.1 fx
  ·exact iL rx fx t f.2 u' hu
noncomputable def inV(x:V)(xs:List V):Bool:=xs.any λy=>eqV y x
def rIn(K:Ec)(neg:Bool):R2:=λx y H Q=>∃p xs,y=.ref p/\(SqL K H p xs\/SqT K H p xs)/\jC x=true/\xs.all jC=true/\Q (.bl (if neg then !inV x xs else inV x xs)) H
theorem oP:OpR X (Ou .In) (rIn X.K false):=by
 intro pins s σ H x y v u Q I rx ry h;obtain⟨p,xs,rfl,hq,fx,fs,q⟩:=h;cases ry;rcases hq with hq|hq
 ·obtain⟨its,r,pl,hz⟩:=I.list hq
  refine SeqAt.in_listAt (eqU x) pl.isList (λw hw=>iL rx fx r fs w (by simpa using hw)) ⟨.bl _,H,I,rfl,?_⟩;rw[show its.toArray.any (eqU x)=its.any (eqU x)by simp,k7 r fs];exact q
 ·obtain⟨its,r,pl,hz⟩:=I.tuple hq
  refine SeqAt.in_tupleAt (eqU x) pl (λw hw=>iL rx fx r fs w (by simpa using hw)) ⟨.bl _,H,I,rfl,?_⟩;rw[show its.toArray.any (eqU x)=its.any (eqU x)by simp,k7 r fs];exact q
theorem jD:bQ X (.builtin "len") (λxs H Q=>∃p ys,xs=[.ref p]/\(SqL X.K H p ys\/SqT X.K H p ys)/\Q (.int ys.length) H):=by
 intro pins s σ H xs us Q I r h;obtain⟨p,ys,rfl,hq,q⟩:=h;obtain⟨u,rfl,rx⟩:=cx r;cases rx;have hn:=eC;rcases hq with hq|hq
 ·obtain⟨its,r',pl,hz⟩:=I.list hq
  have hlen:=r'.length;exact Calls.call_len_list pl.isList (by simp only[Et]<;>lia) ⟨.int ys.length,H,I.tok _,⟨s.toks+1,by rw[Et,hlen]⟩,q⟩
 ·obtain⟨its,r',pl,hz⟩:=I.tuple hq
  have hlen:=r'.length;exact len_tuple pl (by simp only[Et]<;>lia) ⟨.int ys.length,H,I.tok _,⟨s.toks+1,by rw[Et,hlen]⟩,q⟩
theorem jE:bQ X (.builtin "len") (λxs H Q=>∃z,xs=[.str z]/\z.length<=Oo/\Q (.int z.length) H):=by
 intro pins s σ H xs us Q I r h;obtain⟨z,rfl,hz,q⟩:=h;obtain⟨u,rfl,t,rfl⟩:=cx r;have hn:=eC;exact len_str ⋯ ⟨.int z.length,H,I.tok _,⟨_,rfl⟩,q⟩
theorem jF:bQ X (.type "list") (λxs H Q=>∃p ys,xs=[.ref p]/\(SqL X.K H p ys\/SqT X.K H p ys)/\∀l,H l=none->Q (.ref l) (upd H l (.lst ys))):=by
 intro pins s σ H xs us Q I r h;obtain⟨p,ys,rfl,hq,q⟩:=h;obtain⟨u,rfl,rx⟩:=cx r;cases rx;have fin:∀(its:List Value),Vals ys its->ys.length<=Oo->∀(h':Heap) (c':Nat),(∀b o',s.heap.get? b=some o'->h'.get? b=some o')->
   h'.get? s.heap.objs.size=some { cls:=.type "list",dict:=none,data:=.seq its.toArray c',slots:=#[] }->EP X pins σ Q (.ref s.heap.objs.size) { s with heap:=h' }:=λits r' hz h' c' kp e=>
  ⟨.ref s.heap.objs.size,_,I.laid (t':=s.toks) kp (Ed _) (show ObjOk X.prog X.w _ h' _ (.lst ys)from⟨hz,its,c',r',e⟩),rfl,q _ (I.hok.fresh (Ed _))⟩
 rcases hq with hq|hq
 ·obtain⟨its,r',pl,hz⟩:=I.list hq
  have hlen:=r'.length;obtain⟨o,ho,hc,n,hd⟩:=pl.isList;exact call_list_seq p (.inl rfl) ho hc hd (λh' c' kp e=>fin its r' hz h' c' kp e) (by simp only[Et]<;>lia)
 ·obtain⟨its,r',pl,hz⟩:=I.tuple hq
  have hlen:=r'.length;obtain⟨o,ho,hc,n,hd⟩:=pl;exact call_list_seq p (.inr rfl) ho hc hd (λh' c' kp e=>fin its r' hz h' c' kp e) (by simp only[Et]<;>lia)
theorem iM:bQ X (.type "tuple") (λxs H Q=>∃p ys,xs=[.ref p]/\((SqL X.K H p ys/\∀l,H l=none->Q (.ref l) (upd H l (.tup ys)))\/(SqT X.K H p ys/\Q (.ref p) H))):=by
 intro pins s σ H xs us Q I r h;obtain⟨p,ys,rfl,h⟩:=h;obtain⟨u,rfl,rx⟩:=cx r;cases rx;rcases h with⟨hq,q⟩|⟨hq,q⟩
 ·obtain⟨its,r',pl,hz⟩:=I.list hq
  have hlen:=r'.length;refine call_tuple_list pl.isList (λh' kp=>?_) (by simp only[Et]<;>lia);have I1:Inv X pins σ H { s with heap:=h' }:=I.kept (t':=s.toks) kp;have I2:Inv X pins σ (upd H h'.objs.size (.tup ys)) { s with heap:=h'.push { cls:=.type "tuple",data:=.seq its.toArray } }:=
   I1.laid (t':=s.toks) (λb o e=>El _ e) (Ed _) (show ObjOk X.prog X.w _ _ _ (.tup ys)from⟨hz,its,r',NO _ _⟩)
  exact⟨.ref h'.objs.size,_,I2,rfl,q _ (I1.hok.fresh (Ed _))⟩
 ·obtain⟨its,r',pl,hz⟩:=I.tuple hq
  exact call_tuple_same pl ⟨.ref p,H,I,rfl,q⟩
def tyV(K:Ec)(T:String)(x:V)(H:Hp):Prop:=match x with
 | .str _=>T = "str"
 | .int _=>T = "int"
 | .ref p=>(T = "list"/\∃xs,SqL K H p xs)\/(T = "tuple"/\∃o,K.lookup p=some o/\o.cls=.type "tuple"/\o.dict=none)\/
   (T = "dict"/\((∃kvs,H p=some (.dK kvs))\/∃kvs,H p=some (.dT kvs)))\/(T = "set"/\∃S n,H p=some (.set S n))
 | _=>False
theorem ux{H:Hp}{s:Shared}{T:String}{x:V}{v:Value}(I:Inv X pins σ H s)(r:RelV x v)(ty:tyV X.K T x H):
  s.TypeIs v T/\∀a,v=.ref a->∃ob,s.heap.get? a=some ob/\ob.dict=none:=by
 cases x with
 | str z=>
  obtain⟨t,rfl⟩:=r;cases(show T = "str" from ty);exact⟨OJ s z t,λ_ e=>nomatch e⟩
 | int i=>
  obtain⟨t,rfl⟩:=r;cases(show T = "int" from ty);exact⟨typeIs_int s i t,λ_ e=>nomatch e⟩
 | ref p=>
  cases r;rcases ty with⟨rfl,xs,hq⟩|⟨rfl,o,hk,hc,hd⟩|⟨rfl,hk⟩|⟨rfl,S,n,hk⟩
  ·obtain⟨its,_,pl,_⟩:=I.list hq
   refine⟨pl.isList.typeIs,λa e=>?_⟩;cases e;obtain⟨o,n,e,c,hd,_⟩:=pl;exact⟨o,e,hd⟩
  ·refine⟨⟨o,I.kIn p o hk,hc⟩,λa e=>?_⟩
   cases e;exact⟨o,I.kIn _ o hk,hd⟩
  ·have z:∃o,s.heap.get? p=some o/\o.ExactDict:=by
    rcases hk with⟨kvs,hk⟩|⟨kvs,hk⟩
    ·obtain⟨_,_,_,_,o,_,_,e,ex,_⟩:=I.hok p _ hk
     exact⟨o,e,ex⟩
    ·obtain⟨_,_,_,_,o,_,_,e,ex,_⟩:=I.hok p _ hk
     exact⟨o,e,ex⟩
   obtain⟨o,e,ex⟩:=z;refine⟨⟨o,e,ex.1⟩,λa e2=>?_⟩;cases e2;exact⟨o,e,ex.2.1⟩
  ·obtain⟨o,_,_,_,e,ex,_⟩:=I.hok p _ hk
   refine⟨⟨o,e,ex.1⟩,λa e2=>?_⟩;cases e2;exact⟨o,e,ex.2.1⟩
 | _=>exact FI ty
def Bz(K:Ec)(T:String)(r:V->List V->Hp->VK->Prop)(to:TE):TE:=λσ H Q=>to σ H λx H1=>tyV K T x H1/\r x [] H1 Q
def tBM(K:Ec)(T:String)(r:V->List V->Hp->VK->Prop)(to:TE)(t:TA):TE:=λσ H Q=>to σ H λx H1=>tyV K T x H1/\t σ H1 λxs H2=>r x xs H2 Q
variable{o e:Expr}{es:List Expr}{to:TE}{t:TA}{name:Str}{apos cpos:Pos}{T id:String}{r:V->List V->Hp->VK->Prop}
theorem yQ (pa:PlainAttrs T) (slot:Slot T name id) (hty:typeOf (.builtin id)=pure (.type "method_descriptor")) (hm:MtR X id r) (ho:PE X o to)
  (hbase:Ow o name X.env (eval o X.env)=eval o X.env:=by rfl) (hline:(apos.endLine == cpos.line)=true:=by rfl):PE X (.Call (.Attribute o name apos) [] [] cpos) (Bz X.K T r to):=by
 intro pins s σ H Q I h;refine wpAny_Call_method0_late hbase hline (thn (ho pins s σ H _ I h) λv s1 ⟨x,H1,I1,r1,ty,q1⟩=>?_);obtain⟨h1,h2⟩:=ux I1 r1 ty;exact⟨T,id,pa,slot,hty,h1,h2,JE rfl (PySem.evalArgs_none (hm pins s1 σ H1 x [] v [] Q I1 r1 .nil q1))⟩
theorem BA (pa:PlainAttrs T) (slot:Slot T name id) (hty:typeOf (.builtin id)=pure (.type "method_descriptor")) (hm:MtR X id r) (ho:PE X o to) (ha:PA X (e::es) t)
  (hbase:Ow o name X.env (eval o X.env)=eval o X.env:=by rfl)
  (hfew:((backTo cpos (Ot (e::es) X.env)).all (λx=>!x.1) && (backToKw cpos (keywordEach [] X.env)).all (λx=>x.1.isSome)
   && decide ((e::es).length+([]:List Keyword).length+(if([]:List Keyword).isEmpty then 0 else 1)<30))=true:=by rfl)
  (hline:(apos.endLine == cpos.line)=true:=by rfl) (hs:Ot (e::es) X.env=(false,eval e X.env)::Ot es X.env:=by rfl) (hplain:(backTo cpos (Ot es X.env)).any (·.1)=false:=by rfl) :
  PE X (.Call (.Attribute o name apos) (e::es) [] cpos) (tBM X.K T r to t):=by
 intro pins s σ H Q I h;refine wpAny_Call_method_late hbase hfew hline rfl (thn (ho pins s σ H _ I h) λv s1 ⟨x,H1,I1,r1,ty,q1⟩=>?_);obtain⟨h1,h2⟩:=ux I1 r1 ty;refine⟨T,id,pa,slot,hty,h1,h2,?_⟩;have hA:=ha cpos pins s1 σ H1 _ I1 q1;rw[hs]at hA ⊢;refine JE (by show(false || (backTo cpos (Ot es X.env)).any (·.1))=false;rw[hplain]<;>rfl) (Calls.evalArgs_plain ?_);exact thn hA λus s2 ⟨vs,H2,I2,r2,q2⟩=>hm pins s2 σ H2 x vs v us Q I2 r1 r2 q2
end
def MtM(X:Cx)(id:String)(r:V->List V->Hp->VK->Prop):Prop:=
 ∀(pins:List (Addr×Obj)) (s:Shared) (σ:St) (H:Hp) (x:V) (xs:List V) (v:Value) (us:List Value) (Q:VK),Inv X pins σ H s->RelV x v->Vals xs us->r x xs H Q->
  wpAny (model X.prog X.w) X.A (call (.builtin id) (v::us)) (EP X pins σ Q) X.xe s
theorem Vals.one:∀{x:V}{us:List Value},Vals [x] us->∃u,us=[u]/\RelV x u
 | _,_,.cons r .nil=>⟨_,rfl,r⟩
theorem Vals.zero:∀{us:List Value},Vals [] us->us=[]
 | _,.nil=>rfl
theorem Vals.dropLast{xs:List V}{us:List Value}(h:Vals xs us):Vals xs.dropLast us.dropLast:=by
 induction h with
 | nil=>exact .nil
 | cons r t ih=>
  cases t with
  | nil=>exact .nil
  | cons q t'=>exact .cons r ih
theorem Vals.reverse{xs:List V}{us:List Value}(h:Vals xs us):Vals xs.reverse us.reverse:=by
 induction h with
 | nil=>exact .nil
 | cons r t ih=>rw[KS,KS];exact Vals.append ih (.cons r .nil)
theorem Vals.rep{xs:List V}{us:List Value}(h:Vals xs us):∀k:Nat,Vals (Er k xs).flatten (Er k us).flatten
 | 0=>.nil
 | k+1=>by
  rw[Fm,Fm,GI,GI];exact Vals.append h (Vals.rep h k)
theorem nG{α:Type}(l:List α):l.eraseIdx (l.length - 1)=l.dropLast:=by
 induction l with
 | nil=>rfl
 | cons a r ih=>
  cases r with
  | nil=>rfl
  | cons b r=>
   have e:(a::b::r).length - 1=((b::r).length - 1)+1:=by
    have h1:(a::b::r).length=r.length+2:=rfl;have h2:(b::r).length=r.length+1:=rfl;lia
   rw[e,List.eraseIdx_cons_succ,ih]
   all_goals rfl
theorem jG(its:List Value):∀(k:Nat) (acc:List Value),
  Lw (λx1 x2=>x1++x2) acc.toArray (Er k its.toArray)=(acc++(Er k its).flatten).toArray
 | 0,acc=>by simp
 | k+1,acc=>by
  have e:acc.toArray++its.toArray=(acc++its).toArray:=by simp
  have e2:(acc++its)++(Er k its).flatten=acc++(Er (k+1) its).flatten:=by
   rw[Fm,GI,Fi]
  rw[<-e2,<-jG its k (acc++its),<-e,Fm,List.foldl_cons]
section
variable{X:Cx}{pins:List (Addr×Obj)}{σ:St}{H:Hp}{s:Shared}{l b:Addr}{xs ys zs:List V}
theorem Inv.lset{its':List Value}{f:Array Value->Array Value}(I:Inv X pins σ H s)(hH:H l=some (.lst xs))
  (e:s.heap.get? l=some { cls:=.type "list",data:=.seq its.toArray n }) (hf:f its.toArray=its'.toArray) (hv:Vals ys its') (hz:ys.length<=Oo) :
  Inv X pins σ (upd H l (.lst ys)) { s with heap:=s.heap.update l (Fc f),toks:=t' }:=by
 have q:=N2 e f;rw[hf]at q;refine I.write (x:=l) (e:=l) (by rw[hH];exact trivial) (.inl rfl) (λb' u hb hu=>(GE s.heap (Fc f) (E2 hb)).trans hu) ⟨_,q⟩ ?_;exact⟨hz,its',_,hv,q⟩
theorem Inv.lnew(I:Inv X pins σ H s)(hv:Vals ys its)(hz:ys.length<=Oo):
  Inv X pins σ (upd H s.heap.objs.size (.lst ys)) { s with heap:=s.heap.push { cls:=.type "list",data:=.seq its.toArray },toks:=t' }:=
 I.laid (λ_ _ q=>El _ q) (Ed _) ⟨hz,its,0,hv,EH _ rfl⟩
theorem Inv.fresh(I:Inv X pins σ H s):H s.heap.objs.size=none:=I.hok.fresh (Ed _)
theorem Inv.lstM (I:Inv X pins σ H s) (hH:H l=some (.lst xs)):xs.length<=Oo/\∃(its:List Value) (n:Nat),Vals xs its/\xs.length=its.length/\s.heap.get? l=some { cls:=.type "list",data:=.seq its.toArray n }:=by
 obtain⟨z,its,n,r,e⟩:=I.hok l _ hH;exact⟨z,its,n,r,r.length,e⟩
theorem eF(h:n<=Oo):FM n=false:=by
 unfold FM;exact decide_eq_false ⋯
end
section
variable{X:Cx}
def k8:V->List V->Hp->VK->Prop:=λx vs H Q=>∃l xs y,x=.ref l/\vs=[y]/\H l=some (.lst xs)/\xs.length<Oo/\Q .non (upd H l (.lst (xs++[y])))
theorem oQ:MtM X "list.append" k8:=by
 intro pins s σ H x vs v us Q I rx rv h;obtain⟨l,xs,y,rfl,rfl,hH,hz,q⟩:=h;cases rx;obtain⟨u,rfl,ru⟩:=rv.one;obtain⟨z,its,n,r,hl,e⟩:=I.lstM hH;refine OK F.slot_list_append ⟨_,e,rfl⟩ F.entry_list_append (F.args_list_append_2 _ _) (PySem.list_append l its.toArray n u (by rw[Et];lia)) ⟨e,?_⟩;refine⟨.non,_,I.lset (its':=its++[u]) hH e (by simp) (r.append (.cons ru .nil)) ?_,rfl,q⟩;rw[En,Fo];lia
def k9:V->List V->Hp->VK->Prop:=λx vs H Q=>∃l b xs zs,x=.ref l/\vs=[.ref b]/\H l=some (.lst xs)/\H b=some (.lst zs)/\xs.length+zs.length<=Oo/\Q .non (upd H l (.lst (xs++zs)))
theorem oR:MtM X "list.extend" k9:=by
 intro pins s σ H x vs v us Q I rx rv h;obtain⟨l,b,xs,zs,rfl,rfl,hH,hB,hz,q⟩:=h;cases rx;obtain⟨u,rfl,ru⟩:=rv.one;cases ru;obtain⟨z,its,n,r,hl,e⟩:=I.lstM hH;obtain⟨z2,its2,n2,r2,hl2,e2⟩:=I.lstM hB;have hsz:its.toArray.size+its2.toArray.size<=Oo:=by rw[Et,Et];lia
 have hlong:¬(!its.toArray.isEmpty && FM (its.toArray.size+its2.toArray.size))=true:=by
  rw[eF hsz,Ma];exact ED
 refine OK Kq ⟨_,e,rfl⟩ Kb (J2 _ _)
  (Lb l its.toArray n b its2.toArray n2 hlong (by rw[Et];lia) ⋯) ⟨e,e2,?_⟩
 refine⟨.non,_,I.lset (its':=its++its2) hH e (by simp) (r.append r2) ?_,rfl,q⟩;rw[En];lia
def BB:V->List V->Hp->VK->Prop:=λx vs H Q=>∃l xs y,x=.ref l/\vs=[]/\H l=some (.lst xs)/\xs[xs.length - 1]? = some y/\Q y (upd H l (.lst xs.dropLast))
theorem yR:MtM X "list.pop" BB:=by
 intro pins s σ H x vs v us Q I rx rv h;obtain⟨l,xs,y,rfl,rfl,hH,hy,q⟩:=h;cases rx;have hus:=rv.zero;subst hus;obtain⟨z,its,n,r,hl,e⟩:=I.lstM hH;obtain⟨u,hu,ru⟩:=r.get hy;have hy':its.toArray[its.toArray.size - 1]? = some u:=by
  show its.toArray[its.length - 1]? = some u
  rw[<-GL,<-hl];exact hu
 refine OK F.slot_list_pop ⟨_,e,rfl⟩ F.entry_list_pop (F.args_list_pop_1 _) (Nb l its.toArray n u hy' (by rw[Et];lia)) ⟨e,?_⟩;refine⟨y,_,I.lset (its':=its.dropLast) hH e ?_ r.dropLast ?_,ru,q⟩
 ·show its.toArray.eraseIdxIfInBounds (its.toArray.size - 1)=its.dropLast.toArray
  rw[Et,List.eraseIdxIfInBounds_toArray,nG]
 ·rw[List.length_dropLast]
  lia
def CQ:R2:=λx y H Q=>∃l b xs zs,x=.ref l/\y=.ref b/\H l=some (.lst xs)/\H b=some (.lst zs)/\xs.length+zs.length<=Oo/\∀p,H p=none->Q (.ref p) (upd H p (.lst (xs++zs)))
theorem yS:OpR X (OB .Add) CQ:=by
 intro pins s σ H x y v u Q I rx ry h;obtain⟨l,b,xs,zs,rfl,rfl,hH,hB,hz,q⟩:=h;cases rx;cases ry;obtain⟨z,its,n,r,hl,e⟩:=I.lstM hH;obtain⟨z2,its2,n2,r2,hl2,e2⟩:=I.lstM hB;refine PySem.P.add_list e e2 ?_ (by rw[Et,Et];lia);have ea:its.toArray++its2.toArray=(its++its2).toArray:=by simp
 rw[ea];exact⟨.ref _,_,I.lnew (t':=s.toks) (r.append r2) (by rw[En];lia),rfl,q _ I.fresh⟩
def CS:R2:=λx y H Q=>∃l k xs,x=.ref l/\y=.int k/\H l=some (.lst xs)/\-(2 ^ 63)<=k/\k<2 ^ 63/\xs.length*k.toNat<=Oo/\
 ∀p,H p=none->Q (.ref p) (upd H p (.lst (Er k.toNat xs).flatten))
theorem vQ{α:Type}(xs:List α)(k:Nat):(Er k xs).flatten.length=k*xs.length:=by
 induction k with
 | zero=>simp
 | succ k ih=>rw[Fm,GI,En,ih,MW,Nat.add_comm]
theorem yT:OpR X (OB .Mult) CS:=by
 intro pins s σ H x y v u Q I rx ry h;obtain⟨l,k,xs,rfl,rfl,hH,h1,h2,hz,q⟩:=h;cases rx;obtain⟨t,rfl⟩:=ry;obtain⟨z,its,n,r,hl,e⟩:=I.lstM hH;have hlen:its.toArray.size*k.toNat<=Oo:=by rw[Et,<-hl];exact hz
 have hcap:¬its.toArray.size*k.toNat > (2 ^ 63 - 1) / 8:=by
  have:(Oo:Nat)<=(2 ^ 63 - 1) / 8:=by decide
  lia
 have hfit:¬(!Builtin.List.listFitsIndex k)=true:=by
  rw[fitsIndex_both h1 h2];exact ED
 have hlong:¬FM (its.toArray.size*k.toNat)=true:=by
  rw[eF hlen];exact ED
 have hnew:Lw (λx1 x2=>x1++x2) #[] (Er (if its.toArray.isEmpty=true then 0 else k.toNat) its.toArray)=(Er k.toNat its).flatten.toArray:=by
  have f0:∀m:Nat,Lw (λx1 x2=>x1++x2) #[] (Er m its.toArray)=(Er m its).flatten.toArray:=λm=>by
   have:=jG its m [];rw[HY]at this;exact this
  rw[f0];cases its with
  | nil=>simp
  | cons a r'=>rw[if_neg (by simp)]
 refine wpAny_binaryOp_repeat_ref (T:="list") (U:="int") (by decide) ⟨_,e,rfl⟩ (λs'=>typeIs_int s' k t) noFill_list_mul F.fills_int_mul Lx repeat_list F.slot_int_index.lookup
  (OK Lx (typeIs_int s k t) F.entry_int_rmul (F.args_int_rmul_2 _ _) (int___rmul___int_list k t l its.toArray n)
   ⟨e,rfl,⟨_,e,rfl⟩,OK F.slot_list_mul ⟨_,e,rfl⟩ F.entry_list_mul (F.args_list_mul_2 _ _) (K4 l its.toArray n k t hfit hcap hlong) ⟨e,?_⟩⟩)
 rw[hnew];exact⟨.ref _,_,I.lnew (t':=s.toks) (r.rep k.toNat) (by rw[vQ,MX];exact hz),rfl,q _ I.fresh⟩
end
section
variable{prog:Program}{w:World}{A:Around}{E:Value->Shared->Prop}{s:Shared}
theorem oS(its its2:List Value)(a c:Nat):its.toArray.extract 0 a++its2.toArray++its.toArray.extract c its.toArray.size=(its.take a++its2++its.drop c).toArray:=by
  apply Lc.mp
  first
    | (simp
       exact Ee (by simp))
    | simp[Ee]
    | simp
theorem nH{a:Nat}(hac:a<=c)(hc:c<=n):OM (some (a:Int)) (some (c:Int)) none n=((a:Int),(c:Int),1):=by
 simp only[OM,Jg];have h1:¬((a:Int)<0):=by lia
 have h2:¬((c:Int)<0):=by lia
 simp only[h1,h2,if_false,show(1:Int) > 0 by decide,if_true];congr 1
 ·lia
 ·congr 1;lia
set_option maxRecDepth 100000 in
theorem iN{b sl:Addr}{items new:Array Value}{n2:Nat}{vl vu:Value}{a:Nat}{Q:Unit->Shared->Prop}
    (e:s.heap.get? l=some { cls:=.type "list",data:=.seq items n }) (e2:s.heap.get? b=some { cls:=.type "list",data:=.seq new n2 }) (hne:l≠b)
    (hs:s.heap.IsSliceOf sl vl vu .none) (pl:IsPart vl (some (a:Int))) (pu:IsPart vu (some (c:Int))) (hac:a<=c) (hc:c<=items.size)
    (hsz:items.size+new.size<=Oo) (h:Q () { s with heap:=s.heap.update l (Fc λxs=>xs.extract 0 a++new++xs.extract c xs.size) }) :
    wpAny (model prog w) A (setItem (.ref l) (.ref sl) (.ref b)) Q E s:=by
  have hl:s.heap.IsList l items:=Ld e;have hb:s.heap.IsList b new:=Ld e2;obtain⟨os,hos,hcs,hds⟩:=id hs;have hTs:s.TypeIs (.ref sl) "slice":=⟨os,hos,hcs⟩;have hstep:¬((rawPart none == rawInt 0)=true):=ED;have hsame:Jh (.ref l) (.ref b)=false:=by
    unfold Jh;exact beq_eq_false_iff_ne.mpr hne
  have hmax:(max (a:Int) (c:Int)).toNat=c:=by lia
  have hz':((λxs:Array Value=>xs.extract 0 a++new++xs.extract c xs.size) items).size<=Oo+1:=by
    simp only[Array.size_append,Array.size_extract];lia
  unfold setItem
  try with_reducible refine OC ?_
  first|refine On (Oq ?_)|skip
  refine On (wpAny_sequenceKey hl.typeIs (by decide) ?_);refine On (wpAny_callSpecial?_slot (name:=EU "__setitem__") hl.typeIs slot_list_setitem
    (wpAny_call_entry slot_list_setitem hl.typeIs entry_list_setitem ?_ (args_list_setitem _ _ _)))
  show wpAny _ _ (Iz (.ref sl) >>= _) _ _ s
  refine On ?_;unfold Iz;refine On (wpAny_specialOf hTs slice_no_index ?_);simp only[Option.isNone_none,if_true];refine Oq ?_;show wpAny _ _ (typeOf (.ref sl) >>= _) _ _ s
  refine On (wpAny_typeOf hTs ?_)
  first
    | rw[if_neg (by decide)]
    | refine IA (by decide) ?_
  rw[listSliceParts_eq];refine On (On (wpAny_field hos hds (x:=.none) rfl (On (wpAny_listPart .none ?_))));rw[if_neg hstep];refine On (wpAny_field hos hds (x:=vl) rfl (On (wpAny_listPart pl ?_)));refine On (wpAny_field hos hds (x:=vu) rfl (On (wpAny_listPart pu (Oq ?_))))
  first
    | simp only[hsame,Fq,if_false]
    | refine IA hsame ?_
    | (dsimp only
       rw[if_neg (by rw[hsame];exact ED)])
  refine On (m:=IY (.ref b) "must assign iterable to extended slice") ?_;unfold IY;refine On (wpAny_typeOf hb.typeIs ?_)
  first
    | refine NZ (by decide) ?_
    | rw[if_pos (by decide)]
    | simp only[beq_self_eq_true,Kr,if_true]
  unfold Nc;refine On (wpAny_seqItems e2 rfl (Oq ?_));refine On (On (wpAny_seqItems e rfl (Oq ?_)));refine On (wpAny_of_eq ((sliceIndices_raw (some (a:Int)) (some (c:Int)) none items.size (by simp)).trans (congrArg (pure:Int×Int×Int->Sem (Int×Int×Int)) (nH hac hc))) ?_);show wpAny _ _ (if((1:Int) == 1)=true then _ else _) _ _ s
  rw[if_pos (by decide)];refine On (wpAny_rule ?_)
  first
    | simp only[eF hsz,Fq,if_false]
    | refine IA (eF hsz) ?_
  first|refine On (Oq ?_)|skip
  show wpAny _ _ (updateSeq l (λxs=>xs.extract 0 ((a:Int)).toNat++new++xs.extract (max (a:Int) (c:Int)).toNat xs.size) >>= _) _ _ s
  rw[hmax,Fh];refine On (wpAny_updateSeq (hz:=E5 (Ga _ _) hsz) (_hz':=hz') e rfl ?_);refine On (wpAny_letGo ?_)
  first
    | exact On (Oq (Oq ⟨.none,rfl,Oq h⟩))
    | exact Oq ⟨.none,rfl,Oq h⟩
end
section
variable{X:Cx}
theorem oT{s:Shared}{H:Hp}{b sl:Addr}{a c:Int}{vl vu:Value}{Q:Unit->Shared->Prop}(I:Inv X pins σ H s)
  (hH:H l=some (.lst xs)) (hB:H b=some (.lst ys)) (hne:l≠b) (hs:s.heap.IsSliceOf sl vl vu .none) (ra:RelV (.int a) vl) (rc:RelV (.int c) vu) (h0:0<=a) (hac:a<=c) (hc:c<=xs.length)
  (hz:xs.length+ys.length<=Oo) (h:∀s',Inv X pins σ (upd H l (.lst (xs.take a.toNat++ys++xs.drop c.toNat))) s'->Q () s') :
  wpAny (model X.prog X.w) X.A (setItem (.ref l) (.ref sl) (.ref b)) Q X.xe s:=by
 obtain⟨ta,rfl⟩:=ra;obtain⟨tc,rfl⟩:=rc;obtain⟨z,its,n,r,hl,e⟩:=I.lstM hH;obtain⟨z2,its2,n2,r2,hl2,e2⟩:=I.lstM hB;obtain⟨a',rfl⟩:=FO h0;obtain⟨c',rfl⟩:=FO (MY h0 hac);simp only[Fh]at h;refine iN (a:=a') (c:=c') e e2 hne hs (.int _ _) (.int _ _) ⋯ (by rw[Et];lia) (by rw[Et,Et];lia) (h _ ?_);refine I.lset (its':=its.take a'++its2++its.drop c') (t':=s.toks) hH e ?_ (Vals.append (Vals.append (r.take _) r2) (r.drop _)) ?_
 ·exact oS its its2 a' c'
 ·rw[En,En,EI,Ft]
  lia
end
end L2
namespace Att
open PySem PySem.W PySem.Calls PyProof.Rows
theorem f6{P:Params}:∀(ns:List Int) (vs:List Value),WellAll P h vs (ns.map WData.int)->Ox vs ns:=by
 intro ns
 induction ns with
 | nil=>
  intro vs w;rw[Jf]at w;cases w;exact .nil
 | cons n ns ih=>
  intro vs w;rw[E1]at w;cases w with
  | cons a b=>
   cases a;exact .cons _ _ (ih _ b)
theorem oU{l:OpenLaw}(hn:l.most=some n){P:Params}{args:List WData}{vals:List Value}
  (hpre:l.row.toRowW.claim.pre args=true) (hwl:WellAll P h vals args) :
  ∃a vs ns,vals=[ES a]/\args=[WData.list (ns.map WData.int)]/\h.get? a=some { cls:=.type "list",data:=.seq vs.toArray }/\Ox vs ns/\ns.length<=n:=by
 have hsh:WShape.hasAll [] args [.list .int]=true:=(pre_splitW hpre).1;have hc:l.pre.holds [] { args:=args }=true:=(pre_splitW hpre).2;obtain⟨d,r,rfl,h1,h2⟩:=hasAllW_cons hsh;obtain rfl:=hasAllW_nil h2;obtain⟨xs,rfl,h3⟩:=hasW_list h1;obtain⟨ns,rfl⟩:=items_int h3;have hlen:ns.length<=n:=by
  unfold OpenLaw.pre at hc;have h4:(WTm.not (.lt (.lit (.int (n:Int))) (.len (.arg 0)))).holds [] { args:=[.list (ns.map .int)] }=true:=by
   have h4:=(holds_andW hc).1;rw[hn]at h4;exact h4
  have h5:=condW_of h4 (w_not (w_lt w_lit (w_len_list (w_arg rfl))));rw[Ea]at h5;refine Nat.le_of_not_lt λq=>?_
  have q':(n:Int)<((ns.length:Nat):Int):=by lia
  first
   | (rw[decide_eq_true q']at h5;exact absurd h5 (by decide))
   | (simp at h5;lia)
 cases hwl with
 | cons w1 w2=>
  cases w2;cases w1 with
  | list ho hall=>exact⟨_,_,ns,rfl,rfl,ho,f6 ns _ hall,hlen⟩
theorem oV(l:OpenLaw)(args:List WData):l.row.toRowW.claim.post args (.bool true) args=true:=
 postW_of (r:=l.row.toRowW) (X:=(true == true))
  (show WShape.has [] (.bool true) .bool=true by first|rfl|decide|simp[WShape.has,WShape.arms,WShape.armsAll])
  (show(WTm.eq .res (.lit (.bool true))).value [] { args:=args,res:=some (.bool true),after:=args }=some (.bool (true == true))from w_eq_bool (w_res rfl) w_lit) rfl
theorem lg{l:OpenLaw}{q:Program}{loose:List Str}{XP:(Str->Option Value)->Heap->Prop}{YP:World->Heap->Prop}{d:DefRec}
  (hn:l.most=some n) (hdf:d.params.defaults=[])
  (call:∀(w:World) (s₀ s₁:Shared) (mg mb:Str->Option Value) (fa:Addr) (o:Obj) (pm cd doc:Value) (a:Addr) (vs:List Value) (ns:List Int),
   Ground q loose [] XP w s₀ mg mb s₁.heap->YP w s₁.heap->
   s₁.heap.get? fa=some o->o.data=.func (docDef d.name d.params d.body d.scope pm cd doc)->s₁.heap.CodeRec cd d.name->mg d.name=some (.ref fa)->
   s₁.heap.get? a=some { cls:=.type "list",data:=.seq vs.toArray }->Ox vs ns->ns.length<=n->s₁.gens=#[]->
   codeAny (model l.prog w) callerA (.call (.ref fa) ⟨[.ref a],[]⟩) (λr s'=>r=.ok (.ret (.bool true))/\OldK s₁.heap s'.heap/\s'.os=s₁.os/\AllBare s'.gens) s₁) :
  WalkO q loose XP YP l.row.toRowW d [] (λf vs=>Ly f vs):=by
 intro w s₀ s₁ mg mb G Y fa o pm cd doc dV kV ho hd hcd hD hmg hg args vals as hpre hlay hrd hwl hlo;obtain rfl:dV=.none:=Dflts.none hD hdf;obtain rfl:kV=.none:=Dflts.noKw hD;obtain⟨a,vs,ns,rfl,rfl,hobj,hints,hlen⟩:=oU hn hpre hwl;refine enter_call (codeAny_mono (call w s₀ s₁ mg mb fa o pm cd doc a vs ns G Y ho (fd_plain hd) hcd hmg hobj hints hlen hg) λr s' hq=>?_);obtain⟨rfl,h2,h3,h4⟩:=hq;exact⟨.inl ⟨.bool true,.bool true,[],rfl,λ_=>rfl,.bool true,oV l _,λ_=>⟨Hm,λ_ hm=>(nomatch hm)⟩⟩,h2,h3,h4⟩
section
variable{prog:Program}{w:World}{A:Around}{E:Value->Shared->Prop}{s:Shared}{K:Frag}
end
end Att
namespace L2
open PySem PySem.Spec PyProof.Rows
theorem jH:∀{vs:List Value}{ns:List Int},Ox vs ns->Vals (ns.map Og) vs
 | _,_,.nil=>.nil
 | _,_,.cons n t h=>.cons ⟨t,rfl⟩ (jH h)
def BC(H:Hp):Prop:=∀b,H b=none\/∃o xs,H b=some (.frz o (.lst xs))
theorem rB{w:World}{K:Ec}{mg mb:Str->Option Value}{CX:CXT}{fa:Addr}{fd:FuncData}{sp:Sp}{s₁:Shared}{vs:List Value}{ns:List Int}
  (KX:K.In s₁.heap) (hns:s₁.heap.Ns mainGlobals mg) (hb:s₁.heap.Ns builtinsNs mb) (hbb:∀x:Str,x≠"__name__"->mb x=bootBuiltins x) (hlim:s₁.heap.NoLimit) (hg:s₁.gens=#[])
  (ha:s₁.heap.get? a=some { cls:=.type "list",data:=.seq vs.toArray }) (hi:Ox vs ns) (hl:ns.length<=Oo) (hr:Room k callerA)
  (F:∀base:Heap,K.In base->base.Ns mainGlobals mg->FnOk P w K mg base CX k fa fd [x] sp) (hbind:∀(s:Shared) (u:Value),BindsTo s fd ⟨[u],[]⟩ [(x,u)])
  (hsp:∀H:Hp,BC H->SqL K H a (ns.map Og)->sp [.ref a] H (λv _=>v=.bl true) λ_ _ _=>False)
  (hCX:∀H e s',CX [] H s₁ (λ_ _ _=>False) e s'->False) :
  codeAny (model P w) callerA (.call (.ref fa) ⟨[.ref a],[]⟩) (λr s'=>r=.ok (.ret (.bool true))/\OldK s₁.heap s'.heap/\s'.os=s₁.os/\AllBare s'.gens) s₁:=by
 have rv:=jH hi;have lenV:=hi.length
 -- from an abstract heap in which nothing but the script may be tracked
 have core:∀H:Hp,BC H->SqL K H a (ns.map Og)->HOk P w H s₁.heap->(∀b,H b≠none->b=a)->(H a≠none->K.lookup a=none)->
   codeAny (model P w) callerA (.call (.ref fa) ⟨[.ref a],[]⟩) (λr s'=>r=.ok (.ret (.bool true))/\OldK s₁.heap s'.heap/\s'.os=s₁.os/\AllBare s'.gens) s₁:=by
  intro H hO hS hok hA hK;have base_of:∀{b:Addr}{o:Obj},s₁.heap.get? b=some o->H b=none->(qW s₁.heap H).get? b=some o:=λe n=>qX e n
  have noA:∀{b:Addr}{o:Obj}{es:Array DictEntry}{ep:Nat},s₁.heap.get? b=some o->o.data=.dict es ep->H b=none:=λ{b o es ep} e d=>by
   cases q:H b with
   | none=>rfl
   | some u=>
    have e':b=a:=hA b (by rw[q];simp);subst e';rw[ha]at e;cases e;have d':N4 vs.toArray _=Data.dict es ep:=d;cases d'
  have nsK:∀{b:Addr}{m:Str->Option Value},s₁.heap.Ns b m->(qW s₁.heap H).Ns b m:=λ{b m} ⟨o,es,ep,e,d,r⟩=>⟨o,es,ep,base_of e (noA e d),d,r⟩
  have hKb:K.In (qW s₁.heap H):=λb o e=>base_of (KX b o e) (by
   cases q:H b with
   | none=>rfl
   | some u=>
    have e':b=a:=hA b (by rw[q];simp);subst e';rw[hK (by rw[q];simp)]at e;cases e)
  have hM:Mod K mg (qW s₁.heap H):=⟨hKb,nsK hns,⟨mb,nsK hb,hbb⟩,let⟨mc,h1,h2⟩:=hlim;⟨mc,nsK h1,h2⟩⟩;have e0:Env0 P w K mg (qW s₁.heap H) callerA [] s₁ H:=⟨rfl,hM,λb o e=>u9 e,HX (om _ _),trivial,λb hb=>absurd (show b∈([]:List Addr)from hb) (by simp),hok,.of_eq hg⟩;refine codeAny_mono ((F _ hKb (nsK hns)).run callerA [] s₁ H ⟨[.ref a],[]⟩ [.ref a] [.ref a] _ _ hr e0 (hbind s₁ (.ref a)) (.cons rfl .nil) (hsp H hO hS)) λr s' h=>?_
  cases r with
  | error e=>exact(hCX H e s' h).elim
  | ok fl=>
   cases fl with
   | next=>exact FI h
   | brk=>exact FI h
   | cont=>exact FI h
   | ret u=>
    obtain⟨v,H',os,bare,un,hok',r',q⟩:=h;have q':v=.bl true:=q;subst q';obtain rfl:u=Hy true:=r';refine⟨rfl,OldK.of_keep λb o e=>?_,os,bare⟩;cases q:H b with
    | none=>exact un.keep b o e q (by intro z;exact absurd (show b∈([]:List Addr)from z) (by simp)) (by simp)
    | some u=>
     rcases hO b with z|⟨ob,xs,z⟩
     ·rw[q]at z;cases z
     ·have z2:=un.frzs b ob _ z
      obtain⟨e1,_⟩:=hok b _ z;obtain⟨e2,_⟩:=hok' b _ z2;rw[e]at e1;cases e1;exact e2
 cases hk:K.lookup a with
 | some o=>
  -- the script is one of the module's own objects
  have e:=KX a o hk;rw[ha]at e;cases e;refine core (λ_=>none) (λ_=>.inl rfl) (.inr ⟨_,vs.toArray,_,hk,rfl,rfl,rfl,by rw[Et,lenV];exact hl,by simpa using rv⟩) (λb u z=>by have z':(none:Option HO)=some u:=z;cases z') (λb z=>absurd rfl z) λz=>absurd rfl z
 | none=>
  refine core (λb=>if b=a then some (.frz { cls:=.type "list",data:=.seq vs.toArray } (.lst (ns.map Og)))else none) (λb=>?_) (.inl (.inr ⟨{ cls:=.type "list",data:=.seq vs.toArray },if_pos rfl⟩)) (λb u z=>?_) (λb z=>?_) λ_=>hk
  ·by_cases hb:b=a
   ·exact .inr ⟨_,_,if_pos hb⟩
   ·exact .inl (if_neg hb)
  ·by_cases hb:b=a
   ·have z':=(if_pos hb).symm.trans z
    cases z';subst hb;exact⟨ha,by rw[Ea];exact hl,vs,_,rv,ha⟩
   ·have z':=(if_neg hb).symm.trans z
    cases z'
  ·by_cases hb:b=a
   ·exact hb
   ·exact absurd (if_neg hb) z
theorem vR{l:Jy}{q:Program}{loose:List Str}{XP:(Str->Option Value)->Heap->Prop}{YP:World->Heap->Prop}{d:DefRec}{K:Params->Ec}{CX:World->CXT}{sp:World->Sp}
  (hn:l.most=some n) (hn2:n<=Oo) (hdf:d.params.defaults=[]) (hr:Room k callerA)
  (hY:∀(w:World) (h:Heap),YP w h->(K w.params).In h)
  (F:∀(w:World) (mg:Str->Option Value) (fa:Addr) (h:Heap),(K w.params).In h->h.Ns mainGlobals mg->mg d.name=some (.ref fa)->
   ∃fd:FuncData,(∀(s:Shared) (u:Value),BindsTo s fd ⟨[u],[]⟩ [(x,u)])/\
    ∀base:Heap,(K w.params).In base->base.Ns mainGlobals mg->FnOk l.prog w (K w.params) mg base (CX w) k fa fd [x] (sp w))
  (hsp:∀(w:World) (H:Hp) (a:Addr) (ns:List Int),ns.length<=n->BC H->SqL (K w.params) H a (ns.map Og)->sp w [.ref a] H (λv _=>v=.bl true) λ_ _ _=>False)
  (hCX:∀(w:World) (H:Hp) (s:Shared) (e:Value) (s':Shared),CX w [] H s (λ_ _ _=>False) e s'->False) :
  Mn q loose XP YP l.row.toRowW d [] (λf vs=>Ly f vs):=by
 refine Att.lg hn hdf λw s₀ s₁ mg mb fa o pm cd doc a vs ns G Y ho hd hcd hmg hobj hints hlen hg=>?_
 have KX:=hY w _ Y;obtain⟨fd,hb,hF⟩:=F w mg fa _ KX G.T.g hmg;exact rB KX G.T.g G.T.b G.T.builtins G.T.nolimit hg hobj hints (E5 hlen hn2) hr hF hb (λH hO hS=>hsp w H a ns hlen hO hS) λH e s'=>hCX w H s₁ e s'
noncomputable def vS(s:Stmt)(j:Nat):Stmt:=match s with
 | .ClassDef _ _ _ body _ _ _ _ _ _ _=>body.getD j (.Pass ⟨0,0,0,0⟩)
 | _=>.Pass ⟨0,0,0,0⟩
noncomputable def dX(s:Stmt):Arguments:=match s with
 | .FunctionDef _ a _ _ _ _ _ _ _ _=>a
 | _=>{ posonlyargs:=[],args:=[],vararg:=none,kwonlyargs:=[],kw_defaults:=[],kwarg:=none,defaults:=[] }
noncomputable def cP(s:Stmt):List Stmt:=match s with
 | .FunctionDef _ _ b _ _ _ _ _ _ _=>b
 | _=>[]
noncomputable def bj(s:Stmt):Scope:=match s with
 | .FunctionDef _ _ _ _ _ _ sc _ _ _=>sc
 | _=>{ kind:=.function,names:=[],isGenerator:=false,isCoroutine:=false }
noncomputable abbrev CX0:CXT:=λ_ _ _ _ _ _=>False
noncomputable abbrev E0:XK:=λ_ _ _=>False
theorem jI:eD CX0 X E0:=λ_ _ _ _ _ _ _ h=>h.elim
structure Fun (K:Ec) (x qual:Str) (st:Stmt) (f:Addr) (fd:FuncData):Prop where
 ex:∃(oc:Value) (od:Option Addr) (kV doc pm:Value) (an:Option Addr) (cdv ct:Value) (osl:Array (Option Value)),
  fd=Gf x qual (dX st) (cP st) (bj st) .none kV doc pm an cdv ct/\K.lookup f=some ⟨oc,od,.func fd,osl⟩/\Iq K cdv qual=true
 kp:FU K (.ref f)=true
section
variable{P:Program}{w:World}{K:Ec}{mg:Str->Option Value}{base:Heap}
theorem Fun.ok{st:Stmt}{f:Addr}{fd:FuncData}{N ps:List Str}{sp:Sp}(F:Fun K x qual st f fd)(S:FnScope N ps (bj st))(len:∀vs H Q E,sp vs H Q E->vs.length=ps.length)
  (hbody:∀(cdv:Value) (A:Around) (outer:List Env) (s:Shared) (H:Hp) (vs:List V) (Q:VK) (E:XK),Room k (A.deeper (envOfC qual (bj st) s.heap.objs.size f cdv))->sp vs H Q E->
   ∃t,PSs (uu CX0 P w K mg base N qual (bj st) f cdv A outer s H E).nox (cP st) t/\t { nx:=λ_ H'=>Q .non H',rt:=Q } (start N vs) H):FnOk P w K mg base CX0 (k+1) f fd ps sp:=by
 obtain⟨oc,od,kV,doc,pm,an,cdv,ct,osl,rfl,lk,hcd⟩:=F.ex;refine Bw lk hcd S len λA outer s H vs Q E hr hsp=>?_
 obtain⟨t,h,q⟩:=hbody cdv A outer s H vs Q E hr hsp;exact⟨t,h.nox,q⟩
theorem Fun.binds{st:Stmt}{f:Addr}{fd:FuncData}{ps:List Str}(F:Fun K x qual st f fd)
  (h:∀(kV doc pm:Value) (an:Option Addr) (cdv ct:Value) (us:List Value),us.length=ps.length->bindArgs (Gf x qual (dX st) (cP st) (bj st) .none kV doc pm an cdv ct) ⟨us,[]⟩=pure (ps.zip us)):Binds K fd ps []:=by
 obtain⟨oc,od,kV,doc,pm,an,cdv,ct,osl,rfl,lk,hcd⟩:=F.ex;exact .all (h kV doc pm an cdv ct)
theorem uy{st:Stmt}{f:Addr}{oc:Value}{od an:Option Addr}{osl:Array (Option Value)}{kV doc pm cdv ct:Value}(l:K.lookup f=some ⟨oc,od,.func (Gf x qual (dX st) (cP st) (bj st) .none kV doc pm an cdv ct),osl⟩)
  (c:Iq K cdv qual=true) (k:FU K (.ref f)=true):Fun K x qual st f (Gf x qual (dX st) (cP st) (bj st) .none kV doc pm an cdv ct):=⟨⟨oc,od,kV,doc,pm,an,cdv,ct,osl,rfl,l,c⟩,k⟩
end
theorem aq(h:n<=1000):n<Oo:=E6 h (by decide)
section
variable{X:Cx}
end
def Same(H H':Hp):Prop:=∀b o,H b=some o->H' b=some o
theorem Same.refl(H:Hp):Same H H:=λ_ _ h=>h
theorem Same.trans{H H2:Hp}(a:Same H H1)(b:Same H1 H2):Same H H2:=λc o h=>b c o (a c o h)
theorem Same.free{H:Hp}(e:Same H H')(h:H' l=Nd):H l=Nd:=by
 cases q:H l with
 | none=>rfl
 | some o=>
  rw[e l o q]at h;cases h
theorem Same.seq{K:Ec}{H:Hp}(e:Same H H')(h:SqL K H a xs):SqL K H' a xs:=by
 rcases h with(h|⟨o,h⟩)|h
 ·exact .inl (.inl (e _ _ h))
 ·exact .inl (.inr ⟨o,e _ _ h⟩)
 ·exact .inr h
section
variable{X:Cx}{pins:List (Addr×Obj)}{σ:St}{H:Hp}{s:Shared}
theorem Inv.adopt{D:Addr}(I:Inv X pins σ H s)(hn:H D=none)(hL:D≠X.env.locals)
  (h1:D∈X.ex\/X.s₀.heap.objs.size<=D) (h2:∀x c,X.env.cells.lookup x=some c->c≠D) (h3:∀p∈X.pn++pins,p.1≠D)
  (new:ObjOk X.prog X.w (upd H D o) s.heap D o):Inv X pins σ (upd H D o) s:=by
 have nit:∀b u,H b=some u->b≠D:=λb u e z=>by rw[z,hn]at e;cases e
 have keep:∀b u,H b=some u->upd H D o b=some u:=λb u e=>by rw[ar (nit b u e)];exact e
 refine I.step (h':=s.heap) (g':=s.gens) (d':=s.drawn) (t':=s.toks) (ch:=[D]) (λb hb=>?_) (λb o _ _ _ e _=>e) (λb o _ _ _ e _=>⟨o.slots,e⟩) (λb u hc e n=>?_)
  (λb o _ e=>⟨o,e⟩) (λb xs e=>keep b _ e) (λb o u e=>keep b _ e) (λb ps e=>⟨#[],by rw[keep b _ e];simp⟩) (λm hm=>hm) (λb u e=>?_) I.bare
 ·have e:b=D:=by simpa using hb
  subst e;exact⟨h1,hL,h2,h3⟩
 ·rw[ar (λz=>hc (by simp[z]))];exact n
 ·by_cases hb:b=D
  ·subst hb;rw[af]at e;cases e;exact new
  ·rw[ar hb]at e
   exact(I.hok b u e).stay (λc v _ q=>q) (λc q=>keep c _ q) λc xs q=>keep c _ q
end
noncomputable def aR(X:Cx)(N:List Str)(scope:Scope)(cl:List (Str×Addr))(fp:List Addr)(C:Addr)(s:Shared)(H:Hp):Cx:=
 { X with N:=N,s₀:=s,H₀:=H,env:=compEnvC scope cl C X.env,outer:=X.stack,ex:=fp,fn:=λ_=>false,pn:=[],xe:=λ_ _=>False }
noncomputable def FrOk(X:Cx)(scope:Scope)(cl:List (Str×Addr)):List Str->Prop
 | []=>True
 | x::r=>(X.env.kindOf x=some .cell/\(relabel scope X.env).names.lookup x=some .cell/\∃c,cl.lookup x=some c/\X.env.cells.lookup x=some c)/\FrOk X scope cl r
theorem FrOk.mem{X:Cx}{scope:Scope}{cl:List (Str×Addr)}:∀{l:List Str},FrOk X scope cl l->∀x∈l,
  X.env.kindOf x=some .cell/\(relabel scope X.env).names.lookup x=some .cell/\∃c,cl.lookup x=some c/\X.env.cells.lookup x=some c
 | [],_,_,h=>nomatch h
 | y::r,⟨h1,h2⟩,x,h=>by
  rcases EA.mp h with e|e
  ·subst e;exact h1
  ·exact FrOk.mem h2 x e
noncomputable def ClOk(X:Cx):List (Str×Addr)->Prop
 | []=>True
 | p::r=>X.env.cells.lookup p.1=some p.2/\ClOk X r
theorem ClOk.get{X:Cx}:∀{l:List (Str×Addr)},ClOk X l->∀x c,l.lookup x=some c->X.env.cells.lookup x=some c
 | [],_,_,_,h=>by simp at h
 | p::r,⟨h1,h2⟩,x,c,h=>by
  obtain⟨n,a⟩:=p;cases e:x == n with
  | true=>
   have e':x=n:=by simpa using e
   subst e';simp only[E8,e]at h;cases h;exact h1
  | false=>
   simp only[E8,e]at h;exact ClOk.get h2 x c h
structure CompOk (X:Cx) (N tgs frs:List Str) (ix:List Nat) (scope:Scope) (cl:List (Str×Addr)):Prop where
 clos:closureFor scope X.env=pure cl
 cell:∀y∈scope.names,y.2≠.cell
 kind:scope.kind=.function
 names:∀y∈scope.names,y.2=.local->scope.names.lookup y.1=some .local
 nm:N=tgs++frs
 ixs:ix.map (X.N[·]?)=frs.map some
 fr:FrOk X scope cl frs
 cls:ClOk X cl
 has:(relabel scope X.env).names.all (λp=>!(p.2 == .cell || p.2 == .free) || (cl.lookup p.1).isSome)=true
noncomputable def dO(tgs:List Str)(ix:List Nat)(σ:St):St:=Er tgs.length none++ix.map λj=>(σ[j]?).getD none
section
variable{X:Cx}{N tgs frs:List Str}{ix:List Nat}{scope:Scope}{cl:List (Str×Addr)}
theorem nI(c:CompOk X N tgs frs ix scope cl)(h1:N[i]? = some x)(h2:(dO tgs ix σ)[i]? = some (some v)):x∈frs/\∃j:Nat,X.N[j]? = some x/\σ[j]? = some (some v):=by
 unfold dO at h2;by_cases hi:i<tgs.length
 ·rw[Ep (by simpa using hi),Hg,if_pos hi]at h2
  cases h2
 ·rw[Ey (by simpa using hi),E3,Eh]at h2
  rw[c.nm,Ey ⋯]at h1;have e:=congrArg (·[i - tgs.length]?) c.ixs;simp only[Eh,h1]at e;cases q:ix[i - tgs.length]? with
  | none=>rw[q]at e;cases e
  | some j=>
   rw[q]at e h2;simp only[Ls,N0]at e h2;refine⟨Ez h1,j,e,?_⟩;cases z:σ[j]? with
   | none=>rw[z]at h2;cases h2
   | some o=>rw[z]at h2;simp at h2;rw[h2]
theorem hJ{l:List (Str×NameKind)}{k:NameKind}(h:l.lookup x=some k):(x,k)∈l:=F8 h
theorem CompOk.hasOf(c:CompOk X N tgs frs ix scope cl)(h:(relabel scope X.env).names.lookup x=some .cell\/(relabel scope X.env).names.lookup x=some .free):∃a,cl.lookup x=some a:=by
 have all:=Gu.mp c.has;rcases h with h|h
 ·have q:=all _ (hJ h)
  exact Gs.mp (by simpa only[beq_self_eq_true,Kr,Mo,Ka]using q)
 ·have q:=all _ (hJ h)
  exact Gs.mp (by simpa only[beq_self_eq_true,MZ,Mo,Ka]using q)
theorem rD{H:Hp}{s2:Shared}{h1:Heap}{m:Str->Option Value}(c:CompOk X N tgs frs ix scope cl)(I:Inv X pins σ H s2)(hf:∀b∈fp,qS X pins H b)(hfl:∀b∈fp,b<s2.heap.objs.size)
  (hC:s2.heap.objs.size<=C) (hns:h1.Ns C m) (hk:∀b o,s2.heap.get? b=some o->h1.get? b=some o){pins':List (Addr×Obj)}
  (hpin:∀p∈pins',h1.get? p.1=some p.2/\s2.heap.objs.size<=p.1/\p.1≠C/\∀v,p.2.data≠.cell v) :
  Inv (aR X N scope cl fp C s2 H) pins' (dO tgs ix σ) H { s2 with heap:=h1,toks:=tk }:=by
 have hcn:∀x a,cl.lookup x=some a->X.env.cells.lookup x=some a:=c.cls.get
 have clt:∀x a,cl.lookup x=some a->a<s2.heap.objs.size:=λx a e=>by
  obtain⟨v,q⟩:=I.cell x a (hcn x a e);exact q.lt
 refine⟨⟨I.ok.mod,c.kind,I.ok.glob,I.ok.blt,hC,λx y a h1 h2=>I.ok.inj x y a (hcn _ _ h1) (hcn _ _ h2),λx hx=>c.hasOf hx,(λx a z _=>Bool.noConfusion z),I.ok.hd,I.ok.frames,.inl rfl,λb hb=>⟨?_,λx a e=>?_⟩,I.bs,E5 I.ok.bsz I.sz,λb o e hb=>?_,λb hb z=>?_,I.stack,I.stkFree⟩,
  rfl,I.bare,Un.kept hk,⟨m,hns,λi x v e1 e2 e3=>?_⟩,λx a e=>?_,I.hok.fresh hC,λx a e=>I.freeC x a (hcn x a e),λp hp=>?_,I.hok.kept hk,?_⟩
 ·exact EK (EN (hfl b hb) hC)
 ·exact(hf b hb).2.2.2.2.1 x a (hcn x a e)
 ·rcases(hf b hb).2.2.2.1 with z|z
  ·exact I.ok.noex b o e z
  ·exact absurd (EN (Ew (I.ok.bs b o e).1) z) (FC _)
 ·rcases EA.mp (I.stkSub b z)with e|e
  ·exact(hf b hb).2.1 e
  ·exact(hf b hb).2.2.1 e
 ·obtain⟨hx,j,n1,n2⟩:=nI c e1 e2
  obtain⟨k1,k2,a,l1,l2⟩:=c.fr.mem x hx;obtain⟨m',_,hl⟩:=I.loc;obtain⟨u,r,l⟩:=hl j x v n1 n2 (.inr (.inl k1));refine⟨u,r,.inr ⟨.inl k2,a,l1,?_⟩⟩;rcases l with⟨l,_⟩|⟨_,a',l3,o,l4,l5⟩
  ·rw[k1]at l;cases l
  ·rw[l2]at l3;cases l3
   exact⟨o,hk _ _ l4,l5⟩
 ·obtain⟨v,o,q1,q2⟩:=I.cell x a (hcn x a e)
  exact⟨v,o,hk _ _ q1,q2⟩
 ·have hp':p∈pins':=by simpa [aR]using hp
  obtain⟨q1,q2,q3,q4⟩:=hpin p hp';exact⟨q1,I.hok.fresh q2,q3,λz=>by
   rcases EA.mp (I.stkSub p.1 z)with e|e
   ·exact absurd (EN I.lt q2) (by rw[e];exact FC _)
   ·exact I.nofs q2 e,q4⟩
 ·show(dO tgs ix σ).length=N.length
  unfold dO;have e:=congrArg Gq c.ixs;simp only[Ea]at e;rw[c.nm];simp[e]
theorem jJ{prog:Program}{w:World}{A:Around}{R:Result->Shared->Prop}{s:Shared}{elt target iter:Expr}{pos:Pos}{it acc:Value}{env:Env}(I:Nat->Shared->Prop)
  (turn:∀n s,I n s->wpAny (model prog w) A (pyNext it) (λr s1=>match r with
   | none=>R (.ok .next) s1
   | some v=>wpAny (model prog w) A (letOwnedTupleGo target it v) (λ_ s1'=>wpAny (model prog w) A (assign target env v) (λ_ s2=>wpAny (model prog w) A (eval elt env) (λx s3=>
     wpAny (model prog w) A (call (.builtin "list.append") [acc,x]) (λ_ s4=>∃m,m<n/\I m s4) (λ_ _=>False) s3)
     (λ_ _=>False) s2) (λ_ _=>False) s1') (λ_ _=>False) s1) (λ_ _=>False) s)
  (n:Nat) (h:I n s) :
  codeAny (model prog w) A (.compLoop (.ListComp elt [⟨target,iter,[],0⟩] scope pos) 0 it acc env) R s:=by
 have up:∀{α:Type}{t:Sem α}{Q Q':α->Shared->Prop}{E:Value->Shared->Prop}{s:Shared},wpAny (model prog w) A t Q (λ_ _=>False) s->(∀a s,Q a s->Q' a s)->wpAny (model prog w) A t Q' E s:=λh hq=>Oy h hq λ_ _ f=>f.elim
 refine codeAny_loop rfl I (λn s hI=>?_) n h;show wpAny _ _ ((compTurn (.ListComp elt [⟨target,iter,[],0⟩] scope pos) 0 it acc env).onRaise (λx=>do noteFrame x env;theTreesLotGoes x)) _ _ s
 refine wpAny_noted ?_;rw[compTurn_list1];refine On (ON (On (up (turn n s hI) (λr s1 h1=>?_))));cases r with
 | none=>exact Oq h1
 | some v=>
  refine On (up h1 λ_ s1' h1'=>?_);exact On (up h1' (λ_ s2 h2=>On (On (up h2 (λx s3 h3=>On (up h3
   (λ_ s4 h4=>Oq (Oq ⟨rfl,h4⟩))))))))
def oW(wi:TI)(g:TG)(te:TE)(tgs:List Str)(ix:List Nat):TE:=λσ H Q=>wi σ H λJ H1=>
 ∃W:Nat->Nat->List V->St->Hp->Prop,(∃m,W 0 m [] (dO tgs ix σ) H1)/\∀i m xs σc H,W i m xs σc H->xs.length<Oo/\
  ((J.stop i H/\∀p,H p=none->Q (.ref p) (upd H p (.lst xs)))\/(J.go i H/\∀x H',J.yld i H x H'->g x σc H' λσ2 H2=>te σ2 H2 λy H3=>∃m',m'<m/\W (i+1) m' (xs++[y]) σ2 H3))
noncomputable abbrev dP (us:List Value) (k:Nat):Obj:={ cls:=.type "list",data:=.seq us.toArray k }
theorem iO{prog:Program}{w:World}{A:Around}{R:Result->Shared->Prop}{s:Shared}{elt target iter cnd:Expr}{pos:Pos}{it acc:Value}{env:Env}(I:Nat->Shared->Prop)
  (turn:∀n s,I n s->wpAny (model prog w) A (pyNext it) (λr s1=>match r with
   | none=>R (.ok .next) s1
   | some v=>wpAny (model prog w) A (letOwnedTupleGo target it v) (λ_ s1'=>wpAny (model prog w) A (assign target env v) (λ_ s2=>wpAny (model prog w) A (isTrue cnd env (eval cnd env)) (λb s2'=>if b=true then wpAny (model prog w) A (eval elt env) (λx s3=>
     wpAny (model prog w) A (call (.builtin "list.append") [acc,x]) (λ_ s4=>∃m,m<n/\I m s4) (λ_ _=>False) s3)
     (λ_ _=>False) s2' else ∃m,m<n/\I m s2') (λ_ _=>False) s2) (λ_ _=>False) s1') (λ_ _=>False) s1) (λ_ _=>False) s)
  (n:Nat) (h:I n s) :
  codeAny (model prog w) A (.compLoop (.ListComp elt [⟨target,iter,[cnd],0⟩] scope pos) 0 it acc env) R s:=by
 have up:∀{α:Type}{t:Sem α}{Q Q':α->Shared->Prop}{E:Value->Shared->Prop}{s:Shared},wpAny (model prog w) A t Q (λ_ _=>False) s->(∀a s,Q a s->Q' a s)->wpAny (model prog w) A t Q' E s:=λh hq=>Oy h hq λ_ _ f=>f.elim
 refine codeAny_loop rfl I (λn s hI=>?_) n h;show wpAny _ _ ((compTurn (.ListComp elt [⟨target,iter,[cnd],0⟩] scope pos) 0 it acc env).onRaise (λx=>do noteFrame x env;theTreesLotGoes x)) _ _ s
 refine wpAny_noted ?_;rw[compTurn_list];refine On (ON (On (up (turn n s hI) (λr s1 h1=>?_))));cases r with
 | none=>exact Oq h1
 | some v=>
  refine On (up h1 λ_ s1' h1'=>?_);refine On (up h1' λ_ s2 h2=>?_);simp only[List.forIn_cons,List.forIn_nil,if_true];refine On (On (On (up h2 λb s3 h3=>Oq (Oq ?_))));cases b with
  | true=>
   rw[if_pos rfl]at h3;show wpAny _ _ (if true=true then _ else _) _ _ _
   rw[if_pos rfl];exact On (On (up h3 (λx s4 h4=>On (up h4 (λ_ s5 h5=>Oq (Oq ⟨rfl,h5⟩))))))
  | false=>
   rw[if_neg (by decide)]at h3;show wpAny _ _ (if false=true then _ else _) _ _ _
   rw[if_neg (by decide)];exact Oq ⟨rfl,h3⟩
def elB(M:Model)(A:Around)(E:Value->Shared->Prop)(oc:Option Expr)(elt:Expr)(env:Env)(K:Option Value->Shared->Prop)(s:Shared):Prop:=match oc with
 | none=>wpAny M A (eval elt env) (λx s'=>K (some x) s') E s
 | some c=>wpAny M A (isTrue c env (eval c env)) (λb s1=>if b=true then wpAny M A (eval elt env) (λx s'=>K (some x) s') E s1 else K none s1) E s
theorem elB.mono{M:Model}{A:Around}{oc:Option Expr}{env:Env}{K K':Option Value->Shared->Prop}{s:Shared}(h:elB M A E oc elt env K s)(k:∀r s',K r s'->K' r s'):elB M A E oc elt env K' s:=by
 cases oc with
 | none=>exact Oy h (λx s' e=>k _ _ e) λ_ _ e=>e
 | some c=>
  refine Oy h (λb s1 e=>?_) λ_ _ e=>e
  cases b with
  | true=>exact Oy e (λx s' e=>k _ _ e) λ_ _ e=>e
  | false=>exact k _ _ e
theorem iP{prog:Program}{w:World}{A:Around}{R:Result->Shared->Prop}{s:Shared}{elt target iter:Expr}{oc:Option Expr}{pos:Pos}{it acc:Value}{env:Env}(I:Nat->Shared->Prop)
  (turn:∀n s,I n s->wpAny (model prog w) A (pyNext it) (λr s1=>match r with
   | none=>R (.ok .next) s1
   | some v=>wpAny (model prog w) A (letOwnedTupleGo target it v) (λ_ s1'=>wpAny (model prog w) A (assign target env v) (λ_ s2=>elB (model prog w) A (λ_ _=>False) oc elt env (λr s3=>match r with
     | none=>∃m,m<n/\I m s3
     | some x=>wpAny (model prog w) A (call (.builtin "list.append") [acc,x]) (λ_ s4=>∃m,m<n/\I m s4) (λ_ _=>False) s3) s2) (λ_ _=>False) s1') (λ_ _=>False) s1) (λ_ _=>False) s)
  (n:Nat) (h:I n s) :
  codeAny (model prog w) A (.compLoop (.ListComp elt [⟨target,iter,oc.toList,0⟩] scope pos) 0 it acc env) R s:=by
 cases oc with
 | none=>exact jJ I turn n h
 | some c=>exact iO I turn n h
noncomputable abbrev TB:=St->Hp->(Option V->Hp->Prop)->Prop
def PB(X:Cx)(oc:Option Expr)(elt:Expr)(tb:TB):Prop:=∀(pins:List (Addr×Obj)) (s:Shared) (σ:St) (H:Hp) (R:Option V->Hp->Prop),Inv X pins σ H s->tb σ H R->elB (model X.prog X.w) X.A X.xe oc elt X.env (λr s'=>∃H',Inv X pins σ H' s'/\match r with
 | none=>R none H'
 | some u=>∃y,RelV y u/\R (some y) H') s
noncomputable def tbE(te:TE):TB:=λσ H R=>te σ H λy H'=>R (some y) H'
noncomputable def tbF(tc:TT)(te:TE):TB:=λσ H R=>tc σ H λb H1=>if b=true then te σ H1 λy H'=>R (some y) H' else R none H1
theorem PB.no{X:Cx}{te:TE}(he:PE X elt te):PB X none elt (tbE te):=λpins s σ H R I h=>Oy (he pins s σ H _ I h) (λu s' ⟨y,H',I',r,q⟩=>⟨H',I',y,r,q⟩) λ_ _ e=>e
theorem PB.ts{X:Cx}{te:TE}(hcd:PT X cnd tc)(he:PE X elt te):PB X (some cnd) elt (tbF tc te):=λpins s σ H R I h=>Oy (hcd pins s σ H _ I h) (λb s1 ⟨H1,I1,q⟩=>by
 cases b with
 | true=>exact Oy (he pins s1 σ H1 _ I1 q) (λu s' ⟨y,H',I',r,q⟩=>⟨H',I',y,r,q⟩) λ_ _ e=>e
 | false=>exact⟨H1,I1,q⟩) λ_ _ e=>e
def oX(wi:TI)(g:TG)(tb:TB)(tgs:List Str)(ix:List Nat):TE:=λσ H Q=>wi σ H λJ H1=>
 ∃W:Nat->Nat->List V->St->Hp->Prop,(∃m,W 0 m [] (dO tgs ix σ) H1)/\∀i m xs σc H,W i m xs σc H->xs.length<Oo/\
  ((J.stop i H/\∀p,H p=none->Q (.ref p) (upd H p (.lst xs)))\/(J.go i H/\∀x H',J.yld i H x H'->g x σc H' λσ2 H2=>tb σ2 H2 λr H3=>match r with
   | none=>∃m',m'<m/\W (i+1) m' xs σ2 H3
   | some y=>∃m',m'<m/\W (i+1) m' (xs++[y]) σ2 H3))
theorem jK{oc:Option Expr}{tb:TB}(c:CompOk X N tgs frs ix scope cl)(hc:X.calm=true)(hi:PI X tg iter wi)
  (hg:∀fp C s H,PG (aR X N scope cl fp C s H) tg g) (hb:∀fp C s H,PB (aR X N scope cl fp C s H) oc elt tb)
  (hs:∀x,Ov iter X.env x=pure x){use:Option (Value->Sem Unit)}{R:Value->Shared->Prop}{pins:List (Addr×Obj)}{s:Shared}{σ:St}{H:Hp}{Q:VK}
  (hfin:∀{H':Hp}{D C:Addr}{s':Shared}{m:Str->Option Value},Inv X pins σ H' s'->s'.heap.Ns C m->H' C=none->C≠X.env.locals->(C∈X.ex\/X.s₀.heap.objs.size<=C)->(∀x y,X.env.cells.lookup x=some y->y≠C)->(∀p∈X.pn++pins,p.1≠C)->C∉X.fs->Q (.ref D) H'->
   compPost (model X.prog X.w) X.A X.xe use R (.ref D) C (.ok .next) s')
  (I:Inv X pins σ H s) (h:oX wi g tb tgs ix σ H Q) :
  wpAny (model X.prog X.w) X.A (comprehension (.ListComp elt [⟨tg,iter,oc.toList,0⟩] scope pos) scope X.env pos' (newList []) false (eval iter X.env) use) R X.xe s:=by
 refine wpAny_comprehension_free (use:=use) rfl hs c.clos c.kind c.names (thn (hi pins s σ H _ I h) λxv s1 h1=>thn h1 λitv s2 h2=>?_);obtain⟨it,fp,tn,J,H2,rfl,I2,T,st2,f2,W,⟨m0,w0⟩,turn⟩:=h2;have hfl:∀b∈fp,b<s2.heap.objs.size:=λb hb=>by
  obtain⟨o,e,_⟩:=T.obj _ _ st2 b hb;exact Ew e
 have hcn:∀x a,cl.lookup x=some a->X.env.cells.lookup x=some a:=c.cls.get
 refine wpAny_newObj_type (wpAny_newFunctionEnv c.cell (by intro y hy;simp at hy) (λh1 hns1 hsb1=>?_) c.kind);dsimp only at hns1 hsb1 ⊢;generalize hH2:s2.heap.push { cls:=.type "list",dict:=none,data:=.seq ([]:List Value).toArray }=G2 at hns1 hsb1 ⊢;have hC:G2.objs.size=s2.heap.objs.size+1:=by rw[<-hH2,Ip]
 generalize hCC:G2.objs.size=C at *;generalize hDD:s2.heap.objs.size=D at *;have hDC:D≠C:=by lia
 have hCle:D<=C:=by lia
 have old:∀b o,s2.heap.get? b=some o->h1.get? b=some o:=λb o e=>by
  have lt:b<s2.heap.objs.size:=Ew e;exact hsb1.extBut b o (EK (EN (hDD▸lt) hCle)) (El _ (hH2▸El _ e))
 have hacc:h1.get? D=some (dP [] 0):=hsb1.extBut _ _ hDC (El _ (hH2▸(hDD▸EH _ rfl)));have cellD:∀x a,X.env.cells.lookup x=some a->a<D:=λx a e=>by
  obtain⟨v,q⟩:=I2.cell x a e;exact hDD▸q.lt
 have fpc:∀{H':Hp}{us:List Value}{k:Nat},(∀b∈fp,H' b=none)->∀b∈fp,qS (aR X N scope cl fp C s2 H2) [(D,dP us k)] H' b:=λ{H' us k} hn b hb=>by
  have lb:=hfl b hb;refine⟨hn b hb,?_,λz=>?_,.inl hb,λx a e z=>?_,λp hp=>?_⟩
  ·exact EK (EN lb hCle)
  ·rcases EA.mp (I2.stkSub b z)with e|e
   ·exact(f2 b hb).2.1 e
   ·exact(f2 b hb).2.2.1 e
  ·exact(f2 b hb).2.2.2.2.1 x a (hcn x a e) z
  ·have:p=(D,dP us k):=by simpa [aR]using hp
   rw[this];exact Hz lb
 have D_fs:D∉(aR X N scope cl fp C s2 H2).fs:=λz=>by
  rcases EA.mp (I2.stkSub D z)with e|e
  ·exact absurd I2.lt (by rw[<-e,hDD];exact FC _)
  ·exact I2.nofs (HX hDD) e
 have I3:=rD (tk:=s2.toks+([]:List (Str×Value)).length) (pins':=[(D,dP [] 0)]) c I2 f2 (λb hb=>hDD▸hfl b hb) (hDD▸hCle:s2.heap.objs.size<=C) hns1 old (λp hp=>by
  have e:p=(D,dP [] 0):=by simpa using hp
  subst e;exact⟨hacc,HX hDD,hDC,λv z=>by cases z⟩)
 have tn3:tn 0 h1:=T.keep _ _ _ st2 λb _ o e=>old b o e
 have loop:codeAny (model X.prog X.w) X.A (.compLoop (.ListComp elt [⟨tg,iter,oc.toList,0⟩] scope pos) 0 (.ref it) (.ref D) (compEnvC scope cl C X.env))
   (compPost (model X.prog X.w) X.A X.xe use R (.ref D) C) { s2 with heap:=h1,toks:=s2.toks+([]:List (Str×Value)).length }:=by
  refine iP (λn s'=>∃i xs us k σc H',Inv (aR X N scope cl fp C s2 H2) [(D,dP us k)] σc H' s'/\tn i s'.heap/\(∀b∈fp,H' b=none)/\Vals xs us/\W i n xs σc H') ?_ m0
   ⟨0,[],[],0,_,H2,I3,tn3,λb hb=>(f2 b hb).1,.nil,w0⟩
  rintro n s4 ⟨i,xs,us,k,σ4,H4,I4,tn4,fr4,rv,w4⟩;obtain⟨hsz,tt⟩:=turn i n xs σ4 H4 w4;rcases tt with⟨stop,fin⟩|⟨go,step⟩
  ·refine thn (T.done (aR X N scope cl fp C s2 H2) rfl rfl rfl hc i _ s4 σ4 H4 _ I4 (fpc fr4) tn4 stop) λr s5 ⟨hr,I5⟩=>?_
   subst hr;obtain⟨m,ns,_⟩:=I5.loc;have J1:Inv X pins σ H4 s5:=I2.call' I5.os I5.base I5.hok I5.bare λb hb=>⟨(f2 b hb).2.2.2.1,(f2 b hb).2.1,(f2 b hb).2.2.2.2.1,(f2 b hb).2.2.2.2.2⟩
   have big:∀a,D<=a->a≠X.env.locals/\(a∈X.ex\/X.s₀.heap.objs.size<=a)/\(∀x y,X.env.cells.lookup x=some y->y≠a)/\∀p∈X.pn++pins,p.1≠a:=λa ha=>by
    obtain⟨q0,q1,q2,q3,q4,q5⟩:=I2.fpOk (b:=a) (H':=λ_=>none) (hDD▸ha) rfl;exact⟨q1,q3,q4,q5⟩
   obtain⟨b1,b2,b3,b4⟩:=big C hCle;obtain⟨p1,p2,p3,p4,p5⟩:=I5.pin (D,dP us k) (by simp);obtain⟨d1,d2,d3,d4⟩:=big D (Ed _);exact hfin (J1.adopt (D:=D) (o:=.lst xs) p2 d1 d2 d3 d4 ⟨GJ hsz,us,k,rv,p1⟩) ns (by rw[ar (E2 hDC)];exact I5.free) b1 b2 b3 b4 (I2.nofs (hDD▸hCle)) (fin D p2)
  ·refine thn (T.item (aR X N scope cl fp C s2 H2) rfl rfl rfl hc i _ s4 σ4 H4 _ I4 (fpc fr4) tn4 go) λr s5 ⟨u,hr,h5⟩=>?_
   subst hr;refine thn h5 λ_ s6 ⟨x,H6,I6,r6,y6,tn6,fr6⟩=>?_
   have I6':=I6.pinned (fpc fr6) (T.obj _ _ tn6);refine thn (hg fp C s2 H2 _ s6 σ4 H6 x u _ I6' r6 (step x H6 y6)) λ_ s7 ⟨σ7,H7,I7,q7⟩=>?_
   refine(hb fp C s2 H2 _ s7 σ7 H7 _ I7 q7).mono λr s8 ⟨H8,I8,q8⟩=>?_
   have tn8:tn (i+1) s8.heap:=T.keep _ _ _ tn6 λb hb o e=>(I8.pin (b,o) (EO _ (EO _ (dF hb e)))).1
   have fr8:∀b∈fp,H8 b=none:=λb hb=>by
    obtain⟨o,e,d⟩:=T.obj _ _ tn6 b hb;exact(I8.pin (b,o) (EO _ (EO _ (dF hb e)))).2.1
   cases r with
   | none=>
    obtain⟨m',hm,w8⟩:=q8;exact⟨m',hm,i+1,xs,us,k,σ7,H8,I8.unpinned,tn8,fr8,rv,w8⟩
   | some yv=>
   obtain⟨y,r8,m',hm,w8⟩:=q8;obtain⟨p1,p2,p3,p4,p5⟩:=I8.pin (D,dP us k) (by simp[aR]);have hsz':us.toArray.size<=Oo:=by simp;rw[<-rv.length];exact GJ hsz
   refine wpAny_list_append_plain (hsz:=hsz') ⟨k,p1⟩ λh' pl sb=>?_
   have I9:Inv (aR X N scope cl fp C s2 H2) [] σ7 H8 s8:=I8.pins_of λp hp=>nomatch hp
   have I10:Inv (aR X N scope cl fp C s2 H2) [] σ7 H8 { s8 with heap:=h' }:=I9.turned (t':=s8.toks) (it:=D) (λb o hb e=>sb.extBut b o hb e) p2 p3 (.inr (HX hDD))
    (λx a e=>EK (cellD x a (hcn x a e))) (λp hp=>by simp[aR]at hp)
   obtain⟨k',pl⟩:=pl;have eu:us.toArray.push yv=(us++[yv]).toArray:=by simp
   rw[eu]at pl;have I11:Inv (aR X N scope cl fp C s2 H2) [(D,dP (us++[yv]) k')] σ7 H8 { s8 with heap:=h' }:=I10.pins_of λp hp=>by
    have e:p=(D,dP (us++[yv]) k'):=by simpa using hp
    subst e;exact⟨pl,p2,p3,p4,λv z=>by cases z⟩
   exact⟨m',hm,i+1,xs++[y],us++[yv],k',σ7,H8,I11,T.keep _ _ _ tn8 λb hb o e=>sb.extBut b o (EK (hfl b hb)) e,fr8,rv.append (.cons r8 .nil),w8⟩
 exact codeAny_compStart_list loop (T.self _ 0 _ _ _ tn3 loop)
theorem yU{D:Addr}{m:Str->Option Value}(J:Inv X pins σ H' s')(ns:s'.heap.Ns C m)(hC:H' C=none)(b1:C≠X.env.locals)(b2:C∈X.ex\/X.s₀.heap.objs.size<=C)(b3:∀x y,X.env.cells.lookup x=some y->y≠C)(b4:∀p∈X.pn++pins,p.1≠C)(_:C∉X.fs)(q:Q (.ref D) H'):
  compPost (model X.prog X.w) X.A X.xe none (EP X pins σ Q) (.ref D) C (.ok .next) s':=
 ⟨m,ns,λh' sb=>⟨.ref D,H',J.turned (t':=s'.toks) (λb o hb e=>sb.extBut b o hb e) hC b1 b2 b3 b4,rfl,q⟩⟩
theorem yV{Dn:Ends}(hN:X.N.Nodup)(hy:X.N[iy]? = some y)(hx:Loc X.env.scope y)(hf:X.fn y=true\/X.env.scope.names.lookup y=some .local){D:Addr}{m:Str->Option Value}(J:Inv X pins σ H' s')(ns:s'.heap.Ns C m)(hC:H' C=none)(b1:C≠X.env.locals)(b2:C∈X.ex\/X.s₀.heap.objs.size<=C)(b3:∀x y,X.env.cells.lookup x=some y->y≠C)(b4:∀p∈X.pn++pins,p.1≠C)(nf:C∉X.fs)(q:Dn.nx (σ.set iy (some (.ref D))) H'):
  compPost (model X.prog X.w) X.A X.xe (some (assign (.Name y py) X.env)) (λ_ s'=>SP X pins Dn .next s') (.ref D) C (.ok .next) s':=by
 obtain⟨oC,esC,epC,hoC,hdC,rC⟩:=id ns;have J4:Inv X (pins++[(C,oC)]) σ H' s':=J.pins_of λp hp=>by
  rcases ET.mp hp with z|z
  ·exact J.pin p (EO _ z)
  ·have e:p=(C,oC):=by simpa using z
   subst e;exact⟨hoC,hC,b1,nf,λv z=>by rw[hdC]at z;cases z⟩
 show wpAny _ X.A (assign (.Name y py) X.env (.ref D)) _ _ s'
 refine wpAny_assign_Name (dE J4 hN hy hx (v:=.ref D) rfl (λs6 J5=>?_) hf);have hC6:=(J5.pin (C,oC) (EO _ (EO _ (by simp)))).1;exact⟨m,⟨oC,esC,epC,hC6,hdC,rC⟩,λh' sb=>⟨_,_,J5.unpinned.turned (t':=s6.toks) (λb o hb e=>sb.extBut b o hb e) hC b1 b2 b3 b4,q⟩⟩
theorem me{oc:Option Expr}{tb:TB}(c:CompOk X N tgs frs ix scope cl)(hc:X.calm=true)(hi:PI X tg iter wi)
  (hg:∀fp C s H,PG (aR X N scope cl fp C s H) tg g) (hb:∀fp C s H,PB (aR X N scope cl fp C s H) oc elt tb) (hs:∀x,Ov iter X.env x=pure x) :
  PE X (.ListComp elt [⟨tg,iter,oc.toList,0⟩] scope pos) (oX wi g tb tgs ix):=λpins s σ H Q I h=>by
 rw[eval_ListComp];exact jK c hc hi hg hb hs yU I h
theorem oY{oc:Option Expr}{tb:TB}(hN:X.N.Nodup)(hy:X.N[iy]? = some y)(hx:Loc X.env.scope y)(c:CompOk X N tgs frs ix scope cl)(hc:X.calm=true)(hi:PI X tg iter wi)
  (hg:∀fp C s H,PG (aR X N scope cl fp C s H) tg g) (hb:∀fp C s H,PB (aR X N scope cl fp C s H) oc elt tb) (hs:∀x,Ov iter X.env x=pure x)
  (hsw:OL (.ListComp elt [⟨tg,iter,oc.toList,0⟩] scope pos) (some (.Name y py)) spos.line X.env=pure true) (hf:X.fn y=true\/X.env.scope.names.lookup y=some .local) :
  PS X (.Assign [.Name y py] (.ListComp elt [⟨tg,iter,oc.toList,0⟩] scope pos) spos) (nj (oX wi g tb tgs ix) (dm iy)):=λpins s σ H Dn I h=>by
 rw[exec_Assign_Name_used _ _ _ _ hsw];refine On (ON (On ?_));show wpAny _ X.A (do let _ <-comprehension (.ListComp elt [⟨tg,iter,oc.toList,0⟩] scope pos) scope X.env _ (newList []) false (eval iter X.env) (some (assign (.Name y py) X.env))) _ _ s
 exact On (Oy (jK (R:=λ_ s'=>SP X pins Dn .next s') c hc hi hg hb hs (yV hN hy hx hf) I h) (λ_ s' hq=>Oq (Oq hq)) λ_ _ e=>e)
theorem vT{te:TE}(c:CompOk X N tgs frs ix scope cl)(hc:X.calm=true)(hi:PI X tg iter wi)
  (hg:∀fp C s H,PG (aR X N scope cl fp C s H) tg g) (he:∀fp C s H,PE (aR X N scope cl fp C s H) elt te)
  (hs:∀x,Ov iter X.env x=pure x:=by intro _;rfl) :
  PE X (.ListComp elt [⟨tg,iter,[],0⟩] scope pos) (oW wi g te tgs ix):=me (oc:=none) (tb:=tbE te) c hc hi hg (λfp C s H=>.no (he fp C s H)) hs
end
section
variable{X:Cx}
def oZ(i j:Int):Prop:=0<j/\j.natAbs.log2<9000
theorem nJ{j:Int}(h0:0<j)(h:j<2 ^ 64):j.natAbs.log2<9000:=by
 have:j.natAbs<2 ^ 64:=by lia
 have h2:=(JF (by lia:j.natAbs≠0)).mpr this;lia
theorem rE:OpR X (OB .FloorDiv) (rI oZ λi j=>.int (i / j)):=opI λi j _ _ _ _ _ hc q=>by
 have e:i.fdiv j=i / j:=IH _ (HZ hc.1);exact floordiv_int (Int.ne_of_gt hc.1) (by rw[e];exact q) (.inl (G8 hc.2))
theorem rF (hc:X.calm=true):bQ X (.builtin "sum") (λxs H Q=>∃(p:Addr) (ns:List Int),xs=[.ref p]/\SqL X.K H p (ns.map Og)/\Q (.int ns.sum) H):=by
 intro pins s σ H xs us Q I r h;obtain⟨p,ns,rfl,hq,q⟩:=h;obtain⟨u,rfl,ru⟩:=cx r;cases ru;obtain⟨its,rv,hp,hz⟩:=I.list hq;have hi:Ox its ns:=bY rv;have hl:=hp.isList;obtain⟨zs,hx⟩:=hi.allInts.items;have hn:numsOf its.toArray.toList=ns:=by rw[show its.toArray.toList=its from rfl,hi.numsOf]
 rw[hx]at hl hn;rw[nums_intItems]at hn;refine sum_intListG (I.ok.hd hc) hl λh' tk t' hk=>?_
 refine⟨.int ns.sum,H,I.kept hk,⟨t',?_⟩,q⟩;rw[preSum_eq,Ee (by simp),hn]
theorem o7{bs:List Bool}(h:bs.length=n):(Ej n).all (λi=>bs.getD i true)=bs.all id:=by
 subst h;rw[G4,Gu,Gu];constructor
 ·intro h b hb
  obtain⟨i,hi,rfl⟩:=GR.mp hb;have:=h i (by simpa using hi);simpa [hi]using this
 ·intro h i hi
  have hi:i<bs.length:=by simpa using hi
  simp only[Eb,D9 hi,Le];exact h _ (Es hi)
theorem vU{bs:List Bool}(rv:Vals (bs.map V.bl) its){v:Value}(h:its.toArray[i]? = some v){d:Bool}:v=.bool (bs.getD i d):=by
 have h':its[i]? = some v:=by simpa using h
 have hl:=rv.length;have hi:i<its.length:=(Ei.mp h').1;have hi':i<bs.length:=by simpa using(by lia:i<(bs.map V.bl).length)
 obtain⟨u,e,ru⟩:=rv.get (i:=i) (x:=V.bl bs[i]) (by simp[hi']);rw[h']at e;cases e;have:v=.bool bs[i]:=ru;rw[this];simp[hi']
theorem rG (hc:X.calm=true):bQ X (.builtin "all") (λxs H Q=>∃(p:Addr) (bs:List Bool),xs=[.ref p]/\SqL X.K H p (bs.map V.bl)/\Q (.bl (bs.all id)) H):=by
 intro pins s σ H xs us Q I r h;obtain⟨p,bs,rfl,hq,q⟩:=h;obtain⟨u,rfl,ru⟩:=cx r;cases ru;obtain⟨its,rv,hp,hz⟩:=I.list hq;have hlt:p<s.heap.objs.size:=by obtain⟨o,e,_⟩:=hp.isList;exact Ew e
 refine call_all_walk (wpAny_pyIter_list hp.isList ?_);refine⟨s.heap.objs.size,_,_,_,_,_,λi=>bs.getD i true,rfl,Nu (A:=X.A.in1) (I.ok.hd hc) _ p (EK hlt) its.toArray,⟨⟨_,EH _ rfl,rfl,rfl⟩,hp.isList.at λo e=>El _ e⟩,?_,λh' tk hk=>?_⟩
 ·intro i v s Q E hv hQ
  rw[vU rv hv (d:=true)];exact Oz hQ
 ·have e:(Ej its.toArray.size).all (λi=>bs.getD i true)=bs.all id:=o7 (by have:=rv.length;simpa using this)
  rw[e];exact⟨.bl (bs.all id),H,I.kept λb o e=>hk b o (by simp;exact EK (Ew e)) (El _ e),rfl,q⟩
theorem rH:bQ X (.builtin "isinstance") (λxs H Q=>∃x t T b,xs=[x,.ty T]/\TyOf X.K H x t/\GK X.K t (.type T)=some b/\Q (.bl b) H):=by
 intro pins s σ H xs us Q I r h;obtain⟨x,t,T,b,rfl,ty,e,q⟩:=h;obtain⟨u,w',rfl,ru,rw'⟩:=yH r;cases(show w'=FY T from rw');exact oI I ru ty e λtk=>⟨.bl b,H,I.tok _,rfl,q⟩
example (K:Ec):GK K (.type "int") (.type "int")=some true:=rfl
example (K:Ec):GK K (.type "int") (.type "bool")=some false:=rfl
example (K:Ec):GK K (.type "tuple") (.type "tuple")=some true:=rfl
end
noncomputable def bK:Expr->Bool
 | .Starred ..=>false
 | _=>true
theorem aL{es:List Expr}{env:Env}(h:bK e=true):Ot (e::es) env=(false,eval e env)::Ot es env:=by
 cases e<;>first|rfl|cases h
theorem eG{pos:Pos}{env:Env}:∀{es:List Expr},es.all bK=true->(backTo pos (Ot es env)).any (·.1)=false
 | [],_=>rfl
 | e::es,h=>by
  rw[GB,Fu]at h;rw[aL h.1];exact eG (es:=es) h.2
section
variable{X:Cx}{CX:CXT}{k:Nat}{f:Addr}{fd:FuncData}{ps:List Str}{sp:Sp}{E:XK}{x:Str}{p pos apos cpos:Pos}{e o:Expr}{es:List Expr}{te to:TE}{t:TA}{id T:String}{name:Str}
theorem DE(ha:PE X e te)(hr:PA X es t)(hn:bK e=true:=by rfl):PA X (e::es) (nE te t):=vI ha hr (aL hn)
theorem rJ(F:FnOk X.prog X.w X.K X.mg X.base CX k f fd ps sp)(hr:Room k X.A)(hg:Gl X x)(hm:X.mg x=some (.ref f))(hk:FU X.K (.ref f)=true)(hb:Binds X.K fd ps [])(hx:eD CX X E)
  (ha:PA X (e::es) t) (hn:(e::es).all bK=true:=by rfl) (hdb:(x == ("__debug__" : Str))=false:=by decide):PE X (.Call (.Name x p) (e::es) [] pos) (oJ sp [] E t):=by
 rw[GB,Fu]at hn;exact vK F hr hg hm hk hb .nil hx ha hdb (aL hn.1) (eG hn.2)
theorem o8 {r:List V->Hp->VK->Prop}(hc:bQ X (.builtin id) r) (hg:Gl X x) (hm:X.mg x=none) (hv:bootBuiltins x=some (.builtin id)) (ha:PA X (e::es) t) (hn:(e::es).all bK=true:=by rfl) (hn2:x≠"__name__":=by decide) (hdb:(x == ("__debug__" : Str))=false:=by decide) :
  PE X (.Call (.Name x p) (e::es) [] pos) (tCB r t):=by
 rw[GB,Fu]at hn;exact rq hc hg hm hv ha hn2 hdb (aL hn.1) (eG hn.2)
theorem nK {r:List V->Hp->VK->Prop}(hc:bQ X (.type T) r) (hg:Gl X x) (hm:X.mg x=none) (hv:bootBuiltins x=some (.type T)) (ha:PA X (e::es) t) (hn:(e::es).all bK=true:=by rfl) (hn2:x≠"__name__":=by decide) (hdb:(x == ("__debug__" : Str))=false:=by decide) :
  PE X (.Call (.Name x p) (e::es) [] pos) (tCB r t):=by
 rw[GB,Fu]at hn;exact oM hc hg hm hv ha hn2 hdb (aL hn.1) (eG hn.2)
theorem fw {r:V->List V->Hp->VK->Prop}(pa:PlainAttrs T) (slot:Slot T name id) (hty:typeOf (.builtin id)=pure (.type "method_descriptor")) (hm:MtR X id r) (ho:PE X o to) (ha:PA X [e] t)
  (hbase:Ow o name X.env (eval o X.env)=eval o X.env:=by rfl) (hline:(apos.endLine == cpos.line)=true:=by rfl) (hn:bK e=true:=by rfl) :
  PE X (.Call (.Attribute o name apos) [e] [] cpos) (tBM X.K T r to t):=by
 refine BA pa slot hty hm ho ha hbase ?_ hline (aL hn) rfl;rw[aL hn];rfl
end
section
variable{K:Ec}{σ:St}{H:Hp}{Q:VK}{D:Ends}{E:XK}
theorem CT{t u:TS}(h:t { D with nx:=u D } σ H):A7 t u D σ H:=h
theorem CU{te:TE}(h:te σ H λx H1=>g x σ H1 D.nx):nj te g D σ H:=h
theorem rK{R:St->Hp->Prop}(h:R (σ.set i (some v)) H):dm i v σ H R:=h
theorem BD{t:vq}{R:St->Hp->Prop}(h:to σ H λo H1=>ti σ H1 λi H2=>t o i v H2 λH3=>R σ H3):Bc to ti t v σ H R:=h
theorem CV{te:TE}(h:te σ H D.rt):A8 te D σ H:=h
theorem BE{te:TE}(h:te σ H λ_ H1=>D.nx σ H1):vo te D σ H:=h
theorem BF(h:D.nx σ H):vi D σ H:=h
theorem DF{c:TT}{t u:TS}(h:c σ H λb H1=>if b=true then t D σ H1 else u D σ H1):A9 c t u D σ H:=h
theorem CW{c:TT}(h:c σ H λb H1=>if b=true then ta σ H1 Q else tb σ H1 Q):tIf c ta tb σ H Q:=h
theorem BG{t:TE}{R:Bool->Hp->Prop}(h:t σ H λx H'=>∃k,x=.bl k/\R k H'):vD t σ H R:=h
theorem D6{t:TE}{R:Bool->Hp->Prop}(h:t σ H λx H'=>∃k,x=.bl k/\R k H'):tB t σ H R:=h
theorem DG{b:Bool}{R:Bool->Prop}(h:R b):∃k,V.bl b=.bl k/\R k:=⟨b,rfl,h⟩
theorem CY{t:TT}{R:Bool->Hp->Prop}(h:t σ H λc H1=>R (!c) H1):A3 t σ H R:=h
theorem DH{t u:TT}{R:Bool->Hp->Prop}(h:t σ H λc H1=>if c=true then R true H1 else u σ H1 R):tOr t u σ H R:=h
theorem CZ{t u:TT}{R:Bool->Hp->Prop}(h:t σ H λc H1=>if c=true then u σ H1 R else R false H1):A2 t u σ H R:=h
theorem BH(h:ta σ H λx H1=>∃c,x=.bl c/\if c=true then tb σ H1 Q else Q (.bl false) H1):vh ta tb σ H Q:=h
theorem C0(h:ta σ H λx H1=>∃c,x=.bl c/\if c=true then Q (.bl true) H1 else tb σ H1 Q):A5 ta tb σ H Q:=h
theorem D7(h:Q v H):tC v σ H Q:=h
theorem DI{r:R2}(h:ta σ H λx H1=>tb σ H1 λy H2=>r x y H2 Q):tOp r ta tb σ H Q:=h
theorem DJ{r:V->Hp->VK->Prop}(h:ta σ H λx H1=>r x H1 Q):tUn r ta σ H Q:=h
theorem DK{g:Int->Int->V}{i j:Int}(h:Q (g i j) H):rI0 g (.int i) (.int j) H Q:=⟨i,j,rfl,rfl,h⟩
theorem C1{C:Int->Int->Prop}{g:Int->Int->V}{i j:Int}(c:C i j)(h:Q (g i j) H):rI C g (.int i) (.int j) H Q:=⟨i,j,rfl,rfl,c,h⟩
theorem D8{g:Int->V}{i:Int}(h:Q (g i) H):rU g (.int i) H Q:=⟨i,rfl,h⟩
theorem C2{i j:Int}(h:Q (.bl (decide (Og i=Og j))) H):rEq (.int i) (.int j) H Q:=⟨rfl,h⟩
theorem C3{i j:Int}(h:Q (.bl (!decide (Og i=Og j))) H):rNe (.int i) (.int j) H Q:=⟨rfl,h⟩
theorem bz{i:Int}(s:SqL K H p xs)(a:atI xs i=some v)(h:Q v H):xV K (.ref p) (.int i) H Q:=⟨p,xs,i,v,rfl,rfl,s,a,h⟩
theorem o9{i:Int}(s:SqT K H p xs)(a:atI xs i=some v)(h:Q v H):xW K (.ref p) (.int i) H Q:=⟨p,xs,i,v,rfl,rfl,s,a,h⟩
theorem hX{k:Int}{R:Hp->Prop}(s:H p=some (.lst xs))(a:ixN xs.length k=some j)(h:R (upd H p (.lst (xs.set j v)))):k6 (.ref p) (.int k) v H R:=⟨p,xs,k,j,rfl,rfl,s,a,h⟩
theorem yW{i:Int}(s:H p=some (.lst xs))(h:∃v,atI xs i=some v/\Q v H):xV K (.ref p) (.int i) H Q:=let⟨v,a,q⟩:=h;⟨p,xs,i,v,rfl,rfl,Oe s,a,q⟩
theorem vV{i:Int}(s:H p=some (.tup xs))(h:∃v,atI xs i=some v/\Q v H):xW K (.ref p) (.int i) H Q:=let⟨v,a,q⟩:=h;⟨p,xs,i,v,rfl,rfl,Of s,a,q⟩
theorem vW{k:Int}{R:Hp->Prop}(s:H p=some (.lst xs))(h:∃j,ixN xs.length k=some j/\R (upd H p (.lst (xs.set j v)))):k6 (.ref p) (.int k) v H R:=let⟨j,a,q⟩:=h;⟨p,xs,k,j,rfl,rfl,s,a,q⟩
theorem DL{r:List V->Hp->VK->Prop}(h:t σ H λvs H1=>r vs H1 Q):tCB r t σ H Q:=h
theorem BI{tr:TA}{R:List V->Hp->Prop}(h:ta σ H λx H1=>tr σ H1 λxs H2=>R (x::xs) H2):nE ta tr σ H R:=h
theorem C4{R:List V->Hp->Prop}(h:R [] H):yK σ H R:=h
theorem BJ{sp:Sp}(h:t σ H λvs H1=>sp (vs++[]) H1 Q E):oJ sp [] E t σ H Q:=h
theorem C5(h:t σ H λxs H1=>xs.length<=Oo/\∀p,H1 p=none->Q (.ref p) (upd H1 p (.lst xs))):Bv t σ H Q:=h
theorem C6(h:t σ H λxs H1=>xs.length<=Oo/\∀p,H1 p=none->Q (.ref p) (upd H1 p (.tup xs))):Bu t σ H Q:=h
theorem iQ{A B:Prop}(h:A):if true=true then A else B:=by rw[if_pos rfl];exact h
theorem cj{A B:Prop}(h:B):if false=true then A else B:=by rw[if_neg ED];exact h
theorem aP{c A B:Prop}[Decidable c](h1:c->A)(h2:¬c->B):if decide c=true then A else B:=by
 by_cases h:c
 ·rw[decide_eq_true h];exact iQ (h1 h)
 ·rw[decide_eq_false h];exact cj (h2 h)
theorem jL{c A B:Prop}[Decidable c](hc:c)(h:A):if decide c=true then A else B:=by rw[decide_eq_true hc];exact iQ h
theorem dQ{c A B:Prop}[Decidable c](hc:¬c)(h:B):if decide c=true then A else B:=by rw[decide_eq_false hc];exact cj h
theorem vX{c A B:Prop}[Decidable c](hc:c)(h:B):if(!decide c)=true then A else B:=by rw[decide_eq_true hc];exact cj h
theorem ax(h:n<=1000):n<=Oo:=GJ (aq h)
theorem BK{i j:Int}(h1:0<j)(h2:j<2 ^ 64):oZ i j:=⟨h1,nJ h1 h2⟩
theorem DM{i j:Int}(h1:0<j)(h2:j<1073741824):Bk i j:=⟨h1,h2⟩
theorem BL{i j:Int}(h1:-(2 ^ 64)<i)(h2:i<2 ^ 64):CMul i j:=.inl ⟨h1,h2⟩
theorem BM{i j:Int}(h1:-(2 ^ 64)<j)(h2:j<2 ^ 64):CMul i j:=.inr ⟨h1,h2⟩
theorem AI(h:Q (.int 1000000000000000000) H):rI AG (λi j=>.int (i ^ j.toNat)) (.int 10) (.int 18) H Q:=⟨10,18,rfl,rfl,⟨by decide,by decide,by decide⟩,by
 have e:(10:Int) ^ (18:Int).toNat=1000000000000000000:=by decide
 show Q (.int ((10:Int) ^ (18:Int).toNat)) H
 rw[e];exact h⟩
theorem BN(h:Q (.int 1000000) H):rI AG (λi j=>.int (i ^ j.toNat)) (.int 10) (.int 6) H Q:=⟨10,6,rfl,rfl,⟨by decide,by decide,by decide⟩,by
 have e:(10:Int) ^ (6:Int).toNat=1000000:=by decide
 show Q (.int ((10:Int) ^ (6:Int).toNat)) H
 rw[e];exact h⟩
noncomputable abbrev RC:=List V->Hp->VK->Prop
def BO:RC:=λxs H Q=>∃i,xs=[.int i]/\Q (.int (if i<0 then -i else i)) H
def vY:RC:=λxs H Q=>∃k,xs=[.bl k]/\Q (.int (if k then 1 else 0)) H
def vZ:RC:=λxs H Q=>∃i j,xs=[.int i,.int j]/\Q (.int (if j<i then j else i)) H
def yX(K:Ec):RC:=λxs H Q=>∃p ys,xs=[.ref p]/\(SqL K H p ys\/SqT K H p ys)/\Q (.int ys.length) H
def BQ(K:Ec):RC:=λxs H Q=>∃(p:Addr) (ns:List Int),xs=[.ref p]/\SqL K H p (ns.map Og)/\Q (.int ns.sum) H
def BR(K:Ec):RC:=λxs H Q=>∃(p:Addr) (bs:List Bool),xs=[.ref p]/\SqL K H p (bs.map V.bl)/\Q (.bl (bs.all id)) H
def qT(K:Ec):RC:=λxs H Q=>∃x t T b,xs=[x,.ty T]/\TyOf K H x t/\GK K t (.type T)=some b/\Q (.bl b) H
def lh(K:Ec):RC:=λxs H Q=>∃p ys,xs=[.ref p]/\(SqL K H p ys\/SqT K H p ys)/\∀l,H l=none->Q (.ref l) (upd H l (.lst ys))
def iR(K:Ec):RC:=λxs H Q=>∃p ys,xs=[.ref p]/\((SqL K H p ys/\∀l,H l=none->Q (.ref l) (upd H l (.tup ys)))\/(SqT K H p ys/\Q (.ref p) H))
section
variable{X:Cx}
theorem yY:bQ X (.builtin "abs") BO:=rl
theorem yZ:bQ X (.type "int") vY:=λpins s σ H xs us Q I r h=>oF pins s σ H xs us Q I r (.inr h)
theorem y0 (hc:X.calm=true):bQ X (.builtin "min") vZ:=oE hc
theorem y3:bQ X (.builtin "len") (yX X.K):=jD
theorem y4 (hc:X.calm=true):bQ X (.builtin "sum") (BQ X.K):=rF hc
theorem y7 (hc:X.calm=true):bQ X (.builtin "all") (BR X.K):=rG hc
theorem y8:bQ X (.builtin "isinstance") (qT X.K):=rH
theorem we:bQ X (.type "list") (lh X.K):=jF
theorem rL:bQ X (.type "tuple") (iR X.K):=iM
end
theorem C7{i:Int}(h:Q (.int (if i<0 then -i else i)) H):BO [.int i] H Q:=⟨i,rfl,h⟩
theorem BS{k:Bool}(h:Q (.int (if k then 1 else 0)) H):vY [.bl k] H Q:=⟨k,rfl,h⟩
theorem C8{i j:Int}(h:Q (.int (if j<i then j else i)) H):vZ [.int i,.int j] H Q:=⟨i,j,rfl,h⟩
theorem aE(s:SqL K H p ys)(h:Q (.int ys.length) H):yX K [.ref p] H Q:=⟨p,ys,rfl,.inl s,h⟩
theorem pb(s:SqT K H p ys)(h:Q (.int ys.length) H):yX K [.ref p] H Q:=⟨p,ys,rfl,.inr s,h⟩
theorem f7{ns:List Int}(s:SqL K H p (ns.map Og))(h:Q (.int ns.sum) H):BQ K [.ref p] H Q:=⟨p,ns,rfl,s,h⟩
theorem uz{bs:List Bool}(s:SqL K H p (bs.map V.bl))(h:Q (.bl (bs.all id)) H):BR K [.ref p] H Q:=⟨p,bs,rfl,s,h⟩
theorem AJ {i:Int}(h:Q (.bl true) H):qT K [.int i,.ty "int"] H Q:=⟨_,_,_,_,rfl,.int i,rfl,h⟩
theorem AK {i:Int}(h:Q (.bl false) H):qT K [.int i,.ty "bool"] H Q:=⟨_,_,_,_,rfl,.int i,rfl,h⟩
theorem rM (s:H p=some (.tup xs)) (h:Q (.bl true) H):qT K [.ref p,.ty "tuple"] H Q:=⟨_,_,_,_,rfl,.tup s,rfl,h⟩
theorem rN (s:H p=some (.lst xs)) (h:Q (.bl true) H):qT K [.ref p,.ty "list"] H Q:=⟨_,_,_,_,rfl,.lst s,rfl,h⟩
theorem pd(s:SqL K H p ys\/SqT K H p ys)(h:∀l,H l=none->Q (.ref l) (upd H l (.lst ys))):lh K [.ref p] H Q:=⟨p,ys,rfl,s,h⟩
theorem f9(s:SqL K H p ys)(h:∀l,H l=none->Q (.ref l) (upd H l (.tup ys))):iR K [.ref p] H Q:=⟨p,ys,rfl,.inl ⟨s,h⟩⟩
theorem dY{r:Int}(h0:0<=r)(h1:r<xs.length):∃v,atI xs r=some v/\v∈xs:=by
 have hl:r.toNat<xs.length:=by lia
 have e:r=(r.toNat:Int):=by lia
 refine⟨xs[r.toNat],?_,Es hl⟩;have:=aT (xs:=xs) (j:=r.toNat) (v:=xs[r.toNat]) (by simp[hl]);rw[<-e]at this;exact this
theorem C9 {tb:TS}(h:wi σ H λJ H1=>∃W:Nat->Nat->St->Hp->Prop,(∃m,W 0 m σ H1)/\∀i m σ H,W i m σ H->
 (J.stop i H/\D.nx σ H)\/(J.go i H/\∃N:St->Hp->Prop,(∀σ' H',N σ' H'->∃m',m'<m/\W (i+1) m' σ' H')/\∀x H',J.yld i H x H'->g x σ H' λσ2 H2=>tb { D with nx:=N,ct:=N,bk:=D.nx } σ2 H2)):Bh wi g tb D σ H:=h
theorem BU{ta:TA}{R:It->Hp->Prop}(h:ta σ H λvs H1=>∃j:Int,vs=[.int j]/\-(2 ^ 62)<=j/\j<2 ^ 62/\R (Itr 0 j.toNat) H1):vz ta σ H R:=h
theorem AL{tl:TE}{R:It->Hp->Prop}(h:tl σ H λx H1=>∃a,x=.ref a/\(∃xs,SqL K H1 a xs)/\R (Itl K a) H1):vx K tl σ H R:=h
theorem BV{tl:TE}{R:It->Hp->Prop}(h:tl σ H λx H1=>∃a,x=.ref a/\(∃xs,SqT K H1 a xs)/\R (Itt K a) H1):Bg K tl σ H R:=h
theorem DN{A B:Prop}(h:B):if(!true)=true then A else B:=cj h
theorem DO{A B:Prop}(h:A):if(!false)=true then A else B:=iQ h
theorem BW {te:TE}{tgs:List Str}{ix:List Nat}(h:wi σ H λJ H1=>
 ∃W:Nat->Nat->List V->St->Hp->Prop,(∃m,W 0 m [] (dO tgs ix σ) H1)/\∀i m xs σc H,W i m xs σc H->xs.length<Oo/\
  ((J.stop i H/\∀p,H p=none->Q (.ref p) (upd H p (.lst xs)))\/(J.go i H/\∀x H',J.yld i H x H'->g x σc H' λσ2 H2=>te σ2 H2 λy H3=>∃m',m'<m/\W (i+1) m' (xs++[y]) σ2 H3))):oW wi g te tgs ix σ H Q:=h
theorem dvp(n b k:Nat):n / b ^ k / b=n / b ^ (k+1):=by rw[Nat.div_div_eq_div_mul,Ia]
theorem rO{pl:Nat}(hb:2<=b)(h:0<n / b ^ pl):2 ^ (pl+1)<=2*n+1:=by
 have h1:b ^ pl<=n:=(Lz.mp h).2;have h2:2 ^ pl<=b ^ pl:=Nat.pow_le_pow_left hb pl;rw[Ia];lia
def Tape(H:Hp)(p:Addr):Prop:=∃a b c:Int,H p=some (.lst [.int a,.int b,.int c])/\0<=a
structure Stp (p:Addr) (H H':Hp):Prop where
 keep:∀q o,H q=some o->q≠p->H' q=some o
 tape:Tape H' p
theorem Stp.refl(t:Tape H p):Stp p H H:=⟨λ_ _ h _=>h,t⟩
theorem Stp.trans{H2:Hp}(a:Stp p H H1)(b:Stp p H1 H2):Stp p H H2:=⟨λq o h n=>b.keep q o (a.keep q o h n) n,b.tape⟩
theorem Tape.mk{a b c:Int}(h:0<=a):Stp p H (upd H p (.lst [.int a,.int b,.int c])):=⟨λq o e n=>by rw[ar n];exact e,⟨a,b,c,af,h⟩⟩
theorem Stp.new(a:Stp p H H1)(h:H1 q=none):Stp p H (upd H1 q o):=by
 obtain⟨x,y,z,e,n⟩:=a.tape;exact⟨λb u e1 e2=>by rw[ar (aj (a.keep b u e1 e2) h)];exact a.keep b u e1 e2,⟨x,y,z,by rw[ar (aj e h)];exact e,n⟩⟩
theorem Tape.ne(t:Tape H p)(h:H q=none):q≠p:=by
 obtain⟨a,b,c,e,_⟩:=t;exact λz=>aj e h z.symm
theorem Tape.same(t:Tape H p)(s:Same H H1):Tape H1 p:=by
 obtain⟨a,b,c,e,n⟩:=t;exact⟨a,b,c,s _ _ e,n⟩
def y9(K:Ec):Sp:=λvs H Q _=>∃(a:Addr) (ns:List Int) (k:Int),vs=[.ref a,.int k]/\SqL K H a (ns.map Og)/\0<=k/\
 ∀p H',H p=none->Same H H'->Tape H' p->Q (.ref p) H'
def za:Sp:=λvs H Q _=>∃(p:Addr) (m:Int),vs=[.ref p,.int m]/\Tape H p/\0<m/\m<2 ^ 64/\∀r H',0<=r->r<m->Stp p H H'->Q (.int r) H'
def zb:Sp:=λvs H Q _=>∃(p:Addr),vs=[.ref p]/\Tape H p/\∀r H',2<=r->r<=64->Stp p H H'->Q (.int r) H'
end
structure QE (X:Cx) (e:Expr) (t:TE):Prop where
 out:PE X e t
structure QT (X:Cx) (e:Expr) (t:TT):Prop where
 out:PT X e t
structure QW (X:Cx) (e:Expr) (t:TT):Prop where
 out:PW X e t
structure QA (X:Cx) (es:List Expr) (t:TA):Prop where
 out:PA X es t
structure QO (X:Cx) (e:Option Expr) (t:TO):Prop where
 out:PO X e t
structure QI (X:Cx) (tg iter:Expr) (t:TI):Prop where
 out:PI X tg iter t
structure QG (X:Cx) (tg:Expr) (t:TG):Prop where
 out:PG X tg t
structure QGs (X:Cx) (ts:List Expr) (t:TGs):Prop where
 out:PGs X ts t
structure QS (X:Cx) (st:Stmt) (t:TS):Prop where
 out:PS X st t
structure QB (X:Cx) (sts:List Stmt) (t:TS):Prop where
 out:PSs X sts t
structure QOp (X:Cx) (f:Value->Value->Sem Value) (r:R2):Prop where
 out:OpR X f r
structure QUn (X:Cx) (f:Value->Sem Value) (r:V->Hp->VK->Prop):Prop where
 out:UnR X f r
structure QC (X:Cx) (f:Value) (r:List V->Hp->VK->Prop):Prop where
 out:bQ X f r
structure QIx (X:Cx) (r:R2):Prop where
 out:IxR X r
structure QSl (X:Cx) (r:V->Option Int->Option Int->Hp->VK->Prop):Prop where
 out:SlR X r
noncomputable def Da:Expr->Bool
 | .Slice ..=>false
 | _=>true
theorem rP{b:Expr}(h:Da b=true):oO b:=by
 cases b<;>first|(intro _ _;rfl)|cases h
def Dc(K:Ec)(ta:TE):TT:=λσ H Q=>ta σ H λx H'=>∃k,uo K x H' k/\Q k H'
section
variable{X:Cx}{a b c e o:Expr}{es rest:List Expr}{ta tb tc te to ti:TE}{tA tB':TT}{t:TA}{pos p p2 apos cpos:Pos}{r r':R2}{x:Str}
theorem qv (i:Nat){x:Str}{pos:Pos}(hN:X.N[i]? = some x:=by rfl) (hv:Vis X.env.scope x:=by first | exact GM rfl | exact NR (GM rfl) | exact NR (NR rfl)) (hd:(x == ("__debug__" : Str))=false:=by decide)
  (hcd:(x == ("__classdict__" : Str))=false:=by decide):QE X (.Name x pos) (A0 i):=⟨yh hN hv hd hcd⟩
theorem ag{i j pos}:QE X (.Constant (.int i) j pos) (tC (.int i)):=⟨ug⟩
theorem iS{b j pos}:QE X (.Constant (.bool b) j pos) (tC (.bl b)):=⟨A1⟩
theorem bW{j pos}:QE X (.Constant .none j pos) (tC .non):=⟨yi⟩
theorem aB{x j pos}:QE X (.Constant (.str x) j pos) (tC (.str x)):=⟨yj⟩
theorem cQ (hg:Gl X x) (hm:X.mg x=none) (hv:bootBuiltins x=some u) (r:RelV v u) (hn:x≠"__name__":=by decide) (hd:(x == ("__debug__" : Str))=false:=by decide):QE X (.Name x pos) (tC v):=⟨vf hg hm hv r hn hd⟩
theorem az{op:Operator}(ho:QOp X (OB op) r)(ha:QE X a ta)(hb:QE X b tb):QE X (.BinOp a op b pos) (tOp r ta tb):=⟨Bj ho.out ha.out hb.out⟩
theorem lj{op:UnaryOp}{r:V->Hp->VK->Prop}(ho:QUn X (unaryOp op) r)(ha:QE X a ta):QE X (.UnaryOp op a pos) (tUn r ta):=⟨yA ho.out ha.out⟩
theorem c6{op:CmpOp}(ho:QOp X (Ou op) r)(ha:QE X a ta)(hb:QE X b tb)(hm:OQ op b=false):QE X (.Compare a [op] [b] pos) (tOp r ta tb):=⟨vC ho.out ha.out hb.out hm⟩
theorem av{op:CmpOp}(ho:QOp X (Ou op) r)(ha:QE X a ta)(hb:QE X b tb)(hm:OQ op b=false):QT X (.Compare a [op] [b] pos) (vD (tOp r ta tb)):=⟨vE ho.out ha.out hb.out hm⟩
theorem mf{op}(h:QE X a ta):QE X (.BoolOp op [a] pos) ta:=⟨yo h.out⟩
theorem uA(ha:QE X a ta)(hb:QE X (.BoolOp .And (b::rest) pos) tb):QE X (.BoolOp .And (a::b::rest) pos) (vh ta tb):=⟨yp ha.out hb.out⟩
theorem BX(ha:QE X a ta)(hb:QE X (.BoolOp .Or (b::rest) pos) tb):QE X (.BoolOp .Or (a::b::rest) pos) (A5 ta tb):=⟨A6 ha.out hb.out⟩
theorem cL(ha:QT X a tA):QT X (.UnaryOp .Not a pos) (A3 tA):=⟨yn ha.out⟩
theorem ck(h:QE X a ta)(he:∀whole,isTrue a X.env whole=(do let v <-whole;standAt a.pos;OF [v] (truthy v)):=by intro _;rfl):QT X a (tB ta):=⟨yk h.out he⟩
theorem eH{K:Ec}(h:QE X a ta)(he:∀whole,isTrue a X.env whole=(do let v <-whole;standAt a.pos;OF [v] (truthy v)):=by intro _;rfl)(hK:X.K=K:=by rfl):QT X a (Dc K ta):=by subst hK;exact⟨rk h.out he⟩
theorem dZ(ha:QT X a tA):QW X (.BoolOp .And [a] pos) tA:=⟨vg ha.out⟩
theorem di(ha:QT X a tA):QW X (.BoolOp .Or [a] pos) tA:=⟨yl ha.out⟩
theorem eJ(ha:QT X a tA)(hb:QW X (.BoolOp .And (b::rest) pos) tB'):QW X (.BoolOp .And (a::b::rest) pos) (A2 tA tB'):=⟨ym ha.out hb.out⟩
theorem c7(ha:QT X a tA)(hb:QW X (.BoolOp .Or (b::rest) pos) tB'):QW X (.BoolOp .Or (a::b::rest) pos) (tOr tA tB'):=⟨A4 ha.out hb.out⟩
theorem QW.qt(h:QW X e tA):QT X e tA:=⟨h.out.pt⟩
theorem mh(hc:QT X c tA)(ha:QE X a ta)(hb:QE X b tb):QE X (.IfExp c a b pos) (tIf tA ta tb):=⟨qY hc.out ha.out hb.out⟩
theorem aa:QA X [] yK:=⟨yL⟩
theorem ah(ha:QE X e te)(hr:QA X es t)(hn:bK e=true:=by rfl):QA X (e::es) (nE te t):=⟨DE ha.out hr.out hn⟩
theorem aO(h:QA X es t):QE X (.List es pos) (Bv t):=⟨yN h.out⟩
theorem aU{x1}(h:QA X es t):QE X (.Tuple es x1 pos) (Bu t):=⟨yM h.out⟩
theorem aJ(hr:QIx X r)(ha:QE X a ta)(hb:QE X b tb)(hs:Da b=true:=by rfl):QE X (.Subscript a b pos) (tOp r ta tb):=⟨Bx hr.out ha.out hb.out (rP hs)⟩
theorem fc:QO X none kX:=⟨vN⟩
theorem bE(h:QE X e te):QO X (some e) (vM te):=⟨vO h.out⟩
theorem bL{r:V->Option Int->Option Int->Hp->VK->Prop}{lo hi:Option Expr}{tl th:TO}(hr:QSl X r)(he:QE X e te)(hl:QO X lo tl)(hu:QO X hi th):QE X (.Subscript e (.Slice lo hi none p2) pos) (tSl r te tl th):=⟨rA hr.out he.out hl.out hu.out⟩
theorem ak {id:String}{r:RC}(hc:QC X (.builtin id) r) (hg:Gl X x) (hm:X.mg x=none) (hv:bootBuiltins x=some (.builtin id)) (ha:QA X (e::es) t) (hn:(e::es).all bK=true:=by rfl) (hn2:x≠"__name__":=by decide) (hdb:(x == ("__debug__" : Str))=false:=by decide) :
  QE X (.Call (.Name x p) (e::es) [] pos) (tCB r t):=⟨o8 hc.out hg hm hv ha.out hn hn2 hdb⟩
theorem aM {T:String}{r:RC}(hc:QC X (.type T) r) (hg:Gl X x) (hm:X.mg x=none) (hv:bootBuiltins x=some (.type T)) (ha:QA X (e::es) t) (hn:(e::es).all bK=true:=by rfl) (hn2:x≠"__name__":=by decide) (hdb:(x == ("__debug__" : Str))=false:=by decide) :
  QE X (.Call (.Name x p) (e::es) [] pos) (tCB r t):=⟨nK hc.out hg hm hv ha.out hn hn2 hdb⟩
theorem wg{CX:CXT}{f:Addr}{fd:FuncData}{ps:List Str}{sp:Sp}{E:XK}(F:FnOk X.prog X.w X.K X.mg X.base CX k f fd ps sp)(hr:Room k X.A)(hg:Gl X x)(hm:X.mg x=some (.ref f))(hk:FU X.K (.ref f)=true)(hb:Binds X.K fd ps [])(hx:eD CX X E)
  (ha:QA X (e::es) t) (hn:(e::es).all bK=true:=by rfl) (hdb:(x == ("__debug__" : Str))=false:=by decide):QE X (.Call (.Name x p) (e::es) [] pos) (oJ sp [] E t):=⟨rJ F hr hg hm hk hb hx ha.out hn hdb⟩
theorem bf {K:Ec}(ho:QE X o to) (ha:QA X [e] t) (hbase:Ow o ("append" : Str) X.env (eval o X.env)=eval o X.env:=by rfl) (hline:(apos.endLine == cpos.line)=true:=by rfl) (hn:bK e=true:=by rfl) (hK:X.K=K:=by rfl) :
  QE X (.Call (.Attribute o "append" apos) [e] [] cpos) (tBM K "list" k8 to t):=by subst hK;exact⟨fw Gz PySem.F.slot_list_append PySem.F.type_list_append oQ ho.out ha.out hbase hline hn⟩
variable{tg iter:Expr}{wi:TI}{g:TG}{i:Nat}{u:TGs}
theorem eK {p pos:Pos}(hg:Gl X "range") (hm:X.mg "range" = none) (ha:QA X [a] t) (hn:bK a=true:=by rfl):QI X tg (.Call (.Name "range" p) [a] [] pos) (vz t):=⟨ow hg hm ha.out (aL hn)⟩
theorem aI{K:Ec}(hl:QE X e te)(hK:X.K=K:=by rfl):QI X tg e (vx K te):=by subst hK;exact⟨vy hl.out⟩
theorem hZ{K:Ec}(hl:QE X e te)(hK:X.K=K:=by rfl):QI X tg e (Bg K te):=by subst hK;exact⟨yy hl.out⟩
theorem wj(hN:X.N.Nodup)(hi:X.N[i]? = some x)(hx:Loc X.env.scope x)(hf:X.fn x=true\/X.env.scope.names.lookup x=some .local:=by first|exact .inl rfl|exact .inr rfl|assumption):QG X (.Name x pos) (dm i):=⟨vt hN hi hx hf⟩
theorem aQ:QGs X [] AC:=⟨vv⟩
theorem ao{ts:List Expr}(h1:QG X e g)(h2:QGs X ts u)(hs:(OE (e::ts) X.env).map (·.2)=assign e X.env::(OE ts X.env).map (·.2):=by rfl):QGs X (e::ts) (kU g u):=⟨rd h1.out h2.out hs⟩
theorem bo{K:Ec}{ts:List Expr}(hc:X.calm=true)(h:QGs X ts u)(hn:(OE ts X.env).length=n:=by rfl)(hst:(OE ts X.env).findIdx? (·.1)=none:=by rfl)(hK:X.K=K:=by rfl):QG X (.Tuple ts k pos) (AD K n u):=by subst hK;exact⟨yr hc h.out hn hst⟩
variable{st:Stmt}{sts s1 s2:List Stmt}{T1 T2:TS}
theorem aG:QB X [] vi:=⟨vj⟩
theorem ae(h1:QS X st T1)(h2:QB X sts T2):QB X (st::sts) (A7 T1 T2):=⟨qZ h1.out h2.out⟩
theorem ai(h1:QS X st T1):QB X [st] T1:=⟨vm h1.out⟩
theorem au(he:QE X e te):QS X (.Return (some e) pos) (A8 te):=⟨yq he.out⟩
theorem c8:QS X st uh:=⟨q9⟩
theorem bC(he:QE X e te)(hs:OL e none pos.line X.env=pure false:=by rfl):QS X (.Expr e pos) (vo te):=⟨vp he.out hs⟩
theorem a8(hc:QT X c tA)(ha:QB X s1 T1)(hb:QB X s2 T2):QS X (.If c s1 s2 pos) (A9 tA T1 T2):=⟨Ba hc.out ha.out hb.out⟩
theorem zc(hN:X.N.Nodup)(hi:X.N[i]? = some x)(hx:Loc X.env.scope x)(he:QE X e te)(hs:OL e (some (.Name x pos')) pos.line X.env=pure false:=by rfl)(hf:X.fn x=true\/X.env.scope.names.lookup x=some .local:=by first|exact .inl rfl|exact .inr rfl|assumption):
  QS X (.Assign [.Name x pos'] e pos) (nj te (dm i)):=⟨yu hN hi hx he.out hs hf⟩
theorem ia{tpos:Pos}(he:QE X e te)(ho:QE X o to)(hi:QE X b tb)
  (ha:∀v,assign (.Subscript o b tpos) X.env v=(do
   let ov <-OF [v] (eval o X.env)
   let iv <-OF [v,ov] (eval b X.env)
   standAt tpos
   OF [v,ov,iv] (setItem ov iv v)
   release [v,ov,iv] []):=by intro _;rfl)
  (hs:OO [.Subscript o b tpos] e pos.line X.env=pure false:=by rfl) (hw:OP [.Subscript o b tpos] e X.env=pure none:=by rfl)
  (h1:(OE [.Subscript o b tpos] X.env).map (·.2)=[assign (.Subscript o b tpos) X.env]:=by rfl):QS X (.Assign [.Subscript o b tpos] e pos) (nj te (Bc to tb k6)):=⟨oq he.out (yt ho.out hi.out iJ ha) hs hw h1⟩
theorem gh{op:Operator}{ti:R2}(hN:X.N.Nodup)(hi:X.N[i]? = some x)(hx:Loc X.env.scope x)(he:QE X e te)(ho:QOp X (OS op) ti)(hf:X.fn x=true\/X.env.scope.names.lookup x=some .local:=by first|exact .inl rfl|exact .inr rfl|assumption):
  QS X (.AugAssign (.Name x pos') op e pos) (Be i te ti):=⟨yx hN hi hx he.out ho.out hf⟩
theorem jM{i:Nat}{x:Str}{a b:Expr}{ta:TA}{px pt:Pos}{kt k2 pt2}(hc:X.calm=true)(hN:X.N.Nodup)(hi:X.N[i]? = some x)(hj:X.N[j]? = some y)(hij:i≠j)
  (hx:X.env.scope.names.lookup x=some .local) (hy:X.env.scope.names.lookup y=some .local) (ha:QA X [a,b] ta)
  (hw:OP [.Tuple [.Name x px,.Name y py] kt pt] (.Tuple [a,b] k2 pt2) X.env=pure (some [x,y]):=by rfl)
  (hs:OO [.Tuple [.Name x px,.Name y py] kt pt] (.Tuple [a,b] k2 pt2) pos.line X.env=pure false:=by rfl) :
  QS X (.Assign [.Tuple [.Name x px,.Name y py] kt pt] (.Tuple [a,b] k2 pt2) pos) (Bd i j ta):=⟨yw hc hN hi hj hij hx hy ha.out hw hs⟩
theorem c9(hp:PassesOwn (model X.prog X.w) X.A X.env X.xe)(hc:QT X c tA)(hb:QB X sts T1):QS X (.While c sts [] pos) (uj tA T1):=⟨rg hp hc.out hb.out⟩
theorem bX(hp:PassesOwn (model X.prog X.w) X.A X.env X.xe)(hc:X.calm=true)(hi:QI X tg iter wi)(hg:QG X tg g)(hb:QB X sts T1)(hs:∀x,Ov iter X.env x=pure x:=by intro _;rfl):QS X (.For tg iter sts [] pos) (Bh wi g T1):=⟨yz hp hc hi.out hg.out hb.out hs⟩
theorem aS{N tgs frs:List Str}{ix:List Nat}{cl:List (Str×Addr)}(c:CompOk X N tgs frs ix scope cl)(hc:X.calm=true)(hi:QI X tg iter wi)
  (hg:∀fp C s H,QG (aR X N scope cl fp C s H) tg g) (he:∀fp C s H,QE (aR X N scope cl fp C s H) elt te)
  (hs:∀x,Ov iter X.env x=pure x:=by intro _;rfl) :
  QE X (.ListComp elt [⟨tg,iter,[],0⟩] scope pos) (oW wi g te tgs ix):=⟨vT c hc hi.out (λfp C s H=>(hg fp C s H).out) (λfp C s H=>(he fp C s H).out) hs⟩
theorem cW:QOp X (OB .Add) (rI0 λi j=>.int (i+j)):=⟨yB⟩
theorem dn:QOp X (OB .Sub) (rI0 λi j=>.int (i - j)):=⟨yC⟩
theorem fe:QOp X (OB .Mult) (rI CMul λi j=>.int (i*j)):=⟨yD⟩
theorem da:QOp X (OB .FloorDiv) (rI oZ λi j=>.int (i / j)):=⟨rE⟩
theorem gS:QOp X (OB .Mod) (rI (λ_ j=>0<j) λi j=>.int (i % j)):=⟨yE⟩
theorem wk:QOp X (OB .Pow) (rI AG λi j=>.int (i ^ j.toNat)):=⟨yF⟩
theorem ll:QOp X (OB .Add) CQ:=⟨yS⟩
theorem jN:QOp X (OB .Mult) CS:=⟨yT⟩
theorem fz:QOp X (Ou .Eq) rEq:=⟨Bl⟩
theorem zd:QOp X (Ou .NotEq) rNe:=⟨Bm⟩
theorem pe:QOp X (Ou .Lt) (rI0 λi j=>.bl (decide (i<j))):=⟨Bo⟩
theorem De:QOp X (Ou .LtE) (rI0 λi j=>.bl (decide (i<=j))):=⟨Bp⟩
theorem lp:QOp X (Ou .Gt) (rI0 λi j=>.bl (decide (j<i))):=⟨Bq⟩
theorem BY:QOp X (Ou .GtE) (rI0 λi j=>.bl (decide (j<=i))):=⟨Br⟩
theorem mi:QOp X (OS .Add) (rI0 λi j=>.int (i+j)):=⟨vA⟩
theorem ze:QOp X (OS .Sub) (rI0 λi j=>.int (i - j)):=⟨vB⟩
theorem pf:QOp X (OS .FloorDiv) (rI Bk λi j=>.int (i / j)):=⟨rj⟩
theorem lq:QUn X (unaryOp .USub) (rU λi=>.int (-i)):=⟨uk⟩
theorem a9{K:Ec}(hK:X.K=K:=by rfl):QIx X (xV K):=by subst hK;exact⟨ix_list⟩
theorem fE{K:Ec}(hK:X.K=K:=by rfl):QIx X (xW K):=by subst hK;exact⟨ix_tup⟩
theorem gT{K:Ec}(hK:X.K=K:=by rfl):QSl X (AH K):=by subst hK;exact⟨vP⟩
theorem mj:QC X (.builtin "abs") BO:=⟨yY⟩
theorem ph:QC X (.type "int") vY:=⟨yZ⟩
theorem zf (hc:X.calm=true):QC X (.builtin "min") vZ:=⟨y0 hc⟩
theorem aV {K:Ec}(hK:X.K=K:=by rfl):QC X (.builtin "len") (yX K):=by subst hK;exact⟨y3⟩
theorem ib {K:Ec}(hc:X.calm=true) (hK:X.K=K:=by rfl):QC X (.builtin "sum") (BQ K):=by subst hK;exact⟨y4 hc⟩
theorem uB {K:Ec}(hc:X.calm=true) (hK:X.K=K:=by rfl):QC X (.builtin "all") (BR K):=by subst hK;exact⟨y7 hc⟩
theorem ic {K:Ec}(hK:X.K=K:=by rfl):QC X (.builtin "isinstance") (qT K):=by subst hK;exact⟨y8⟩
theorem wm {K:Ec}(hK:X.K=K:=by rfl):QC X (.type "list") (lh K):=by subst hK;exact⟨we⟩
theorem cM {K:Ec}(hK:X.K=K:=by rfl):QC X (.type "tuple") (iR K):=by subst hK;exact⟨rL⟩
end
section
variable{P:Program}{w:World}{K:Ec}{mg:Str->Option Value}{base:Heap}
theorem Fun.okQ{st:Stmt}{f:Addr}{fd:FuncData}{N ps:List Str}{sp:Sp}(F:Fun K x qual st f fd)(S:FnScope N ps (bj st))(len:∀vs H Q E,sp vs H Q E->vs.length=ps.length)
  (hbody:∀(cdv:Value) (A:Around) (outer:List Env) (s:Shared) (H:Hp) (vs:List V) (Q:VK) (E:XK),Room k (A.deeper (envOfC qual (bj st) s.heap.objs.size f cdv))->sp vs H Q E->
   ∃t,QB (uu CX0 P w K mg base N qual (bj st) f cdv A outer s H E).nox (cP st) t/\t { nx:=λ_ H'=>Q .non H',rt:=Q } (start N vs) H):FnOk P w K mg base CX0 (k+1) f fd ps sp:=
 F.ok S len λcdv A outer s H vs Q E hr hsp=>by
  obtain⟨t,h,q⟩:=hbody cdv A outer s H vs Q E hr hsp;exact⟨t,h.out,q⟩
end
def BZ(K:Ec)(te:TE):TE:=λσ H Q=>te σ H λx H1=>∃a xs,x=.ref a/\SqL K H1 a xs/\∀p,H1 p=none->Q (.ref p) (upd H1 p (.lst xs.reverse))
section
variable{X:Cx}{e:Expr}{te:TE}{pos p1 p2 p3:Pos}{j:Nat}
theorem zg(he:PE X e te):PE X (.Subscript e (.Slice none none (some (.UnaryOp .USub (.Constant (.int 1) j p1) p2)) p3) pos) (BZ X.K te):=by
 intro pins s σ H Q I h;refine Subscript_ (thn (he pins s σ H _ I h) λv s1 ⟨x,H1,I1,r1,q1⟩=>?_);obtain⟨a,xs,rfl,hx,q⟩:=q1;cases r1;refine wpAny_Slice (evalPart_none_step (evalPart_none_step (evalPart_some_step ?_)));refine thn (yA (X:=X) uk ug pins s1 σ H1 (λx H'=>x=.int (-1)/\H'=H1) I1 ⟨1,rfl,rfl,rfl⟩) λvk s2 ⟨y,H2,I2,r2,e2,e3⟩=>?_
 subst e2 e3;obtain⟨t,rfl⟩:=r2;have I4:Inv X pins σ H2 { s2 with heap:=s2.heap.push { cls:=.type "slice",data:=.fields #[.none,.none,.int (-1) t] } }:=I2.kept (t':=s2.toks) λb ob q=>El _ q
 obtain⟨its,r,ht,hz⟩:=I4.list hx;have hlen:=r.length;show wpAny (model X.prog X.w) X.A (subscriptTail e (.Slice none none (some (.UnaryOp .USub (.Constant (.int 1) j p1) p2)) p3) (.ref a) (.ref s2.heap.objs.size)) (EP X pins σ Q) X.xe { s2 with heap:=s2.heap.push { cls:=.type "slice",data:=.fields #[.none,.none,.int (-1) t] } }
 refine tail_any (ops:=[.ref a,.ref s2.heap.objs.size]) ht.isList.typeIs slot_list_getitem.lookup ?_ (by with_unfolding_all rfl);refine wpAny_getItem_list_slice ht.isList (Iy ..) .none .none (.int (-1) t) (by decide) ?_ (by rw[Et];lia);rw[PySem.W.krv_pick];refine⟨.ref _,_,I4.laid (t':=s2.toks) (o:=.lst xs.reverse) (λb ob q=>El _ q) (Ed _) ?_,rfl,q _ (I4.hok.fresh (Ed _))⟩;exact⟨by rw[F9];exact hz,its.reverse,0,r.reverse,EH _ rfl⟩
theorem uC{K:Ec}(he:QE X e te)(hK:X.K=K:=by rfl):QE X (.Subscript e (.Slice none none (some (.UnaryOp .USub (.Constant (.int 1) j p1) p2)) p3) pos) (BZ K te):=by subst hK;exact⟨zg he.out⟩
end
section
variable{X:Cx}
end
section
variable{K:Ec}{σ:St}{H:Hp}{Q:VK}{D:Ends}
theorem Df{te:TE}(h:te σ H λx H1=>∃a xs,x=.ref a/\SqL K H1 a xs/\∀p,H1 p=none->Q (.ref p) (upd H1 p (.lst xs.reverse))):BZ K te σ H Q:=h
theorem B0(h:ta σ H λx H1=>tb σ H1 λy H2=>(λx y=>∃v w,[x,y]=[v,w]/\D.nx ((σ.set i (some v)).set j (some w)) H2) x y):Bd i j (nE ta (nE tb yK)) D σ H:=h
theorem wo{x y:V}{R:V->V->Prop}(h:R x y):∃v w,[x,y]=[v,w]/\R v w:=⟨x,y,rfl,h⟩
theorem DP{r:V->List V->Hp->VK->Prop}{T:String}(h:to σ H λx H1=>tyV K T x H1/\t σ H1 λxs H2=>r x xs H2 Q):tBM K T r to t σ H Q:=h
theorem aW{y:V}(s:H l=some (.lst xs))(z:xs.length<Oo)(h:Q .non (upd H l (.lst (xs++[y])))):k8 (.ref l) [y] H Q:=⟨l,xs,y,rfl,rfl,s,z,h⟩
theorem br (h:H l=some (.lst xs)):tyV K "list" (.ref l) H:=.inl ⟨rfl,_,Oe h⟩
theorem Same.tup{H1:Hp}{a:Addr}{xs:List V}(e:Same H H1)(h:SqT K H a xs):SqT K H1 a xs:=by
 rcases h with(h|⟨o,h⟩)|h
 ·exact .inl (.inl (e _ _ h))
 ·exact .inl (.inr ⟨o,e _ _ h⟩)
 ·exact .inr h
theorem Same.new(e:Same H H1)(h:H1 p=none):Same H (upd H1 p o):=λb u q=>by rw[ar (aj (e b u q) h)];exact e b u q
theorem Same.own(e:Same H H1)(h:H p=none):Same H (upd H1 p o):=λb u q=>by rw[ar (aj q h)];exact e b u q
theorem Stp.same{p:Addr}{H1 H2:Hp}(s:Stp p H H1)(e:Same H1 H2):Stp p H H2:=⟨λq o h n=>e q o (s.keep q o h n),s.tape.same e⟩
end
def Nx(n i:Nat)(P:Prop):Prop:=∃m',m'<n - i/\m'=n - (i+1)/\i+1<=n/\P
theorem Nx.mk{P:Prop}(h:i<n)(p:P):Nx n i P:=⟨n - (i+1),by lia,rfl,h,p⟩
section
variable{K:Ec}{H:Hp}{g:TG}{te:TE}{σ0:St}{R:List V->Hp->Prop}
theorem rQ(Pv:Nat->List V->St->Hp->Prop)(hz:n<Oo)(hl:∀i ys σ H,Pv i ys σ H->ys.length=i)(h0:Pv 0 [] σ0 H)
  (hs:∀i ys σ H,i<n->Pv i ys σ H->g (.int (0+i)) σ H λσ2 H2=>te σ2 H2 λy H3=>Nx n i (Pv (i+1) (ys++[y]) σ2 H3)) (hd:∀ys σ H,Pv n ys σ H->R ys H) :
  ∃W:Nat->Nat->List V->St->Hp->Prop,(∃m,W 0 m [] σ0 H)/\∀i m xs σc H,W i m xs σc H->xs.length<Oo/\
  (((Itr 0 n).stop i H/\R xs H)\/((Itr 0 n).go i H/\∀x H',(Itr 0 n).yld i H x H'->g x σc H' λσ2 H2=>te σ2 H2 λy H3=>∃m',m'<m/\W (i+1) m' (xs++[y]) σ2 H3)):=by
 refine⟨λi m xs σ H=>m=n - i/\i<=n/\Pv i xs σ H,⟨n,by simp,Eo _,h0⟩,?_⟩;rintro i m xs σ H ⟨rfl,hi,p⟩;refine⟨by rw[hl i xs σ H p];exact E6 hi hz,?_⟩;by_cases hlt:i<n
 ·refine .inr ⟨hlt,λx H' y=>?_⟩
  obtain⟨e,y⟩:=y;subst e y;exact hs i xs σ _ hlt p
 ·have e:i=n:=by lia
  subst e;exact .inl ⟨Ed _,hd xs σ H p⟩
theorem eL(Pv:Nat->List V->St->Hp->Prop)(hz:vs.length<Oo)(hl:∀i ys σ H,Pv i ys σ H->ys.length=i)(ht:∀i ys σ H,Pv i ys σ H->SqT K H a vs)(h0:Pv 0 [] σ0 H)
  (hs:∀i ys σ H x,vs[i]? = some x->Pv i ys σ H->g x σ H λσ2 H2=>te σ2 H2 λy H3=>Nx vs.length i (Pv (i+1) (ys++[y]) σ2 H3)) (hd:∀ys σ H,Pv vs.length ys σ H->R ys H) :
  ∃W:Nat->Nat->List V->St->Hp->Prop,(∃m,W 0 m [] σ0 H)/\∀i m xs σc H,W i m xs σc H->xs.length<Oo/\
  (((Itt K a).stop i H/\R xs H)\/((Itt K a).go i H/\∀x H',(Itt K a).yld i H x H'->g x σc H' λσ2 H2=>te σ2 H2 λy H3=>∃m',m'<m/\W (i+1) m' (xs++[y]) σ2 H3)):=by
 refine⟨λi m xs σ H=>m=vs.length - i/\i<=vs.length/\Pv i xs σ H,⟨vs.length,by simp,Eo _,h0⟩,?_⟩;rintro i m xs σ H ⟨rfl,hi,p⟩;have q:=ht i xs σ H p;refine⟨by rw[hl i xs σ H p];exact E6 hi hz,?_⟩;by_cases hlt:i<vs.length
 ·refine .inr ⟨⟨vs,vs[i],q,by simp[hlt]⟩,λx H' y=>?_⟩
  obtain⟨e,y⟩:=y;subst e;exact hs i xs σ _ x (y vs q) p
 ·have e:i=vs.length:=by lia
  subst e;exact .inl ⟨⟨vs,q,Ed _⟩,hd xs σ H p⟩
theorem aN(Pv:Nat->List V->St->Hp->Prop)(hz:vs.length<Oo)(hl:∀i ys σ H,Pv i ys σ H->ys.length=i)(ht:∀i ys σ H,Pv i ys σ H->SqL K H a vs)(h0:Pv 0 [] σ0 H)
  (hs:∀i ys σ H x,vs[i]? = some x->Pv i ys σ H->g x σ H λσ2 H2=>te σ2 H2 λy H3=>Nx vs.length i (Pv (i+1) (ys++[y]) σ2 H3)) (hd:∀ys σ H,Pv vs.length ys σ H->R ys H) :
  ∃W:Nat->Nat->List V->St->Hp->Prop,(∃m,W 0 m [] σ0 H)/\∀i m xs σc H,W i m xs σc H->xs.length<Oo/\
  (((Itl K a).stop i H/\R xs H)\/((Itl K a).go i H/\∀x H',(Itl K a).yld i H x H'->g x σc H' λσ2 H2=>te σ2 H2 λy H3=>∃m',m'<m/\W (i+1) m' (xs++[y]) σ2 H3)):=by
 refine⟨λi m xs σ H=>m=vs.length - i/\i<=vs.length/\Pv i xs σ H,⟨vs.length,by simp,Eo _,h0⟩,?_⟩;rintro i m xs σ H ⟨rfl,hi,p⟩;have q:=ht i xs σ H p;refine⟨by rw[hl i xs σ H p];exact E6 hi hz,?_⟩;by_cases hlt:i<vs.length
 ·refine .inr ⟨⟨vs,vs[i],q,by simp[hlt]⟩,λx H' y=>?_⟩
  obtain⟨e,y⟩:=y;subst e;exact hs i xs σ _ x (y vs q) p
 ·have e:i=vs.length:=by lia
  subst e;exact .inl ⟨⟨vs,q,Ed _⟩,hd xs σ H p⟩
end
noncomputable def dg(n b m:Nat):List Int:=(Ej m).map λj=>((n / b ^ (m - 1 - j) % b:Nat):Int)
theorem zh(n b m:Nat):((Ej m).map λj=>Og ((n / b ^ j % b:Nat):Int)).reverse=(dg n b m).map Og:=by
 unfold dg;rw[<-Ji,<-PySem.W.krv_range,FD,FD];rfl
section
variable{X:Cx}{N tgs frs:List Str}{ix:List Nat}{scope:Scope}{cl:List (Str×Addr)}
theorem wq{te:TE}(hN:X.N.Nodup)(hy:X.N[iy]? = some y)(hx:Loc X.env.scope y)(c:CompOk X N tgs frs ix scope cl)(hc:X.calm=true)(hi:PI X tg iter wi)
  (hg:∀fp C s H,PG (aR X N scope cl fp C s H) tg g) (he:∀fp C s H,PE (aR X N scope cl fp C s H) elt te)
  (hs:∀x,Ov iter X.env x=pure x:=by intro _;rfl)
  (hsw:OL (.ListComp elt [⟨tg,iter,[],0⟩] scope pos) (some (.Name y py)) spos.line X.env=pure true:=by rfl)
  (hf:X.fn y=true\/X.env.scope.names.lookup y=some .local:=by first|exact .inl rfl|exact .inr rfl|assumption) :
  PS X (.Assign [.Name y py] (.ListComp elt [⟨tg,iter,[],0⟩] scope pos) spos) (nj (oW wi g te tgs ix) (dm iy)):=oY (oc:=none) (tb:=tbE te) hN hy hx c hc hi hg (λfp C s H=>.no (he fp C s H)) hs hsw hf
theorem iT{te:TE}(hN:X.N.Nodup)(hy:X.N[i]? = some y)(hx:Loc X.env.scope y)(c:CompOk X N tgs frs ix scope cl)(hc:X.calm=true)(hi:QI X tg iter wi)
  (hg:∀fp C s H,QG (aR X N scope cl fp C s H) tg g) (he:∀fp C s H,QE (aR X N scope cl fp C s H) elt te)
  (hs:∀x,Ov iter X.env x=pure x:=by intro _;rfl)
  (hsw:OL (.ListComp elt [⟨tg,iter,[],0⟩] scope pos) (some (.Name y py)) spos.line X.env=pure true:=by rfl)
  (hf:X.fn y=true\/X.env.scope.names.lookup y=some .local:=by first|exact .inl rfl|exact .inr rfl|assumption) :
  QS X (.Assign [.Name y py] (.ListComp elt [⟨tg,iter,[],0⟩] scope pos) spos) (nj (oW wi g te tgs ix) (dm i)):=
 ⟨wq hN hy hx c hc hi.out (λfp C s H=>(hg fp C s H).out) (λfp C s H=>(he fp C s H).out) hs hsw hf⟩
end
section
variable{prog:Program}{w:World}{A:Around}{E:Value->Shared->Prop}{s:Shared}
end
section
variable{X:Cx}{pos:Pos}{u:TGs}
end
noncomputable def d6(bs:List Nat):Nat:=bs.foldl GW 1
theorem ml(m n:Nat):m / F6 m n*n=GW m n:=by
 rw[GW,Nat.div_mul_right_comm (Lf m n)]
theorem mn:∀(bs:List Nat) (a m:Nat),a∣m->(∀b∈bs,b∣m)->bs.foldl GW a∣m
 | [],a,m,h,_=>h
 | b::bs,a,m,h,hb=>mn bs _ m (Nat.lcm_dvd h (hb b (by simp))) λc hc=>hb c (by simp[hc])
theorem mq:∀(bs:List Nat) (a:Nat),a∣bs.foldl GW a/\∀b∈bs,b∣bs.foldl GW a
 | [],a=>⟨Nat.dvd_refl a,λ_ h=>nomatch h⟩
 | b::bs,a=>by
  obtain⟨h1,h2⟩:=mq bs (GW a b);refine⟨Mp (Nat.dvd_lcm_left a b) h1,λc hc=>?_⟩;rcases EA.mp hc with rfl|hc
  ·exact Mp (Nat.dvd_lcm_right a c) h1
  ·exact h2 c hc
theorem rR{bs:List Nat}(h:∀b∈bs,b∣m):d6 bs∣m:=mn bs 1 m (Nat.one_dvd m) h
theorem mr{bs:List Nat}(h:b∈bs):b∣d6 bs:=(mq bs 1).2 b h
theorem mv{bs:List Nat}(h:∀b∈bs,1<=b/\b<=60):0<d6 bs:=by
 have:∀(bs:List Nat) (a:Nat),0<a->(∀b∈bs,1<=b/\b<=60)->0<bs.foldl GW a:=by
  intro bs
  induction bs with
  | nil=>intro a ha _;exact ha
  | cons b bs ih=>intro a ha hb;exact ih _ (Nat.lcm_pos ha (by have:=(hb b (by simp)).1;lia)) λc hc=>hb c (by simp[hc])
 exact this bs 1 (by decide) h
theorem jO(bs:List Nat)(i:Nat)(b:Nat)(h:bs[i]? = some b):d6 (bs.take (i+1))=GW (d6 (bs.take i)) b:=by
 have et:bs.take (i+1)=bs.take i++[b]:=by rw[Em,h];rfl
 unfold d6;rw[et,List.foldl_append];rfl
noncomputable def xX:Nat:=2 ^ 5*(3 ^ 3*(5 ^ 2*(7 ^ 2*(11 ^ 1*(13 ^ 1*(17 ^ 1*(19 ^ 1*(23 ^ 1*(29 ^ 1*(31 ^ 1*(37 ^ 1*(41 ^ 1*(43 ^ 1*(47 ^ 1*(53 ^ 1*(59 ^ 1*1))))))))))))))))
theorem pj:∀b,b<=60->1<=b->b∣xX:=by
 have key:∀b:_root_.Fin 61,1<=b.val->xX % b.val=0:=by decide +kernel
 intro b h1 h2;exact Nat.dvd_of_mod_eq_zero (key ⟨b,by lia⟩ h2)
theorem zi{bs:List Nat}(hb:∀b∈bs,1<=b/\b<=60):d6 bs∣xX:=rR λb h=>pj b (hb b h).2 (hb b h).1
theorem mw{g l:Nat}(h:0<l):F6 l (g % l)=F6 g l:=by
 rw[M0 g l,Nat.gcd_rec l g,M0]
def jP(H:Hp)(ps:List Addr)(tb:List (Int×Nat)):Prop:=ps.length=tb.length/\∀(i:Nat) (p:Addr) (z:Int×Nat),ps[i]? = some p->tb[i]? = some z->H p=some (.tup [.int z.1,.int z.2])
theorem bM{α:Type}{xs:List α}{x:α}{y:α}(h:(xs++[x])[i]? = some y):(i<xs.length/\xs[i]? = some y)\/(i=xs.length/\y=x):=by
 rcases FG i xs.length with l|l|l
 ·rw[Ep l]at h;exact .inl ⟨l,h⟩
 ·subst l;simp at h;exact .inr ⟨rfl,h.symm⟩
 ·rw[Hv (by simp;lia)]at h;cases h
section
variable{X:Cx}{pins:List (Addr×Obj)}{σ:St}{H:Hp}{s:Shared}{h':Heap}
theorem Inv.turnedAll(I:Inv X pins σ H s)(k:∀b o,b∉ch->s.heap.get? b=some o->h'.get? b=some o)(hf:∀b∈ch,qS X pins H b):Inv X pins σ H { s with heap:=h',toks:=t' }:=by
 have nit:∀b u,H b=some u->b∉ch:=λb u e z=>by rw[(hf b z).1]at e;cases e
 refine I.step (g':=s.gens) (d':=s.drawn) (ch:=ch) (λb hb=>?_) (λb o _ _ hc e _=>k b o hc e) (λb o _ _ hc e _=>⟨o.slots,k b o hc e⟩) (λ_ _ _ _ n=>n)
  (λb o hc e=>⟨o,k b o hc e⟩) (λ_ _ e=>e) (λ_ _ _ e=>e) (λb ps e=>⟨#[],by rw[e];simp⟩) (λm hm=>?_) (λb u e=>?_) I.bare
 ·obtain⟨_,f1,_,f3,f4,f5⟩:=hf b hb
  exact⟨f3,f1,f4,f5⟩
 ·obtain⟨o,es,ep,q,r⟩:=hm
  exact⟨o,es,ep,k _ o (λz=>(hf _ z).2.1 rfl) q,r⟩
 ·refine(I.hok b u e).stay (λc v hc q=>k c v ?_ q) (λ_ q=>q) λ_ _ q=>q
  rcases hc with z|z
  ·rw[z];exact nit b u e
  ·exact nit c _ z
end
section
variable{X:Cx}
def zj(K:Ec):RC:=λxs H Q=>∃(p:Addr) (ns:List Int),xs=[.ref p]/\(SqL K H p (ns.map Og)\/SqT K H p (ns.map Og))/\ns≠[]/\∀M,M∈ns->(∀a∈ns,M<=a)->Q (.int M) H
def zk(K:Ec):RC:=λxs H Q=>∃(p:Addr) (ns:List Int),xs=[.ref p]/\(SqL K H p (ns.map Og)\/SqT K H p (ns.map Og))/\ns≠[]/\∀M,M∈ns->(∀a∈ns,a<=M)->Q (.int M) H
theorem dG{zs:Array (Int×Tok)}{ns:List Int}(hn:zs.toList.map (·.1)=ns)(i:Nat):numAt zs i=ns.getD i 0:=by
 subst hn;unfold numAt;rw[Eb,Eh,GL]
theorem mx{zs:Array (Int×Tok)}{ns:List Int}(hn:zs.toList.map (·.1)=ns)(h0:ns≠[]):let M:=numAt zs (argBest (λi j=>decide (numAt zs i<numAt zs j)) (zs.size - 1));M∈ns/\∀a∈ns,M<=a:=by
 have hz:ns.length=zs.size:=by rw[<-hn];simp
 have hp:0<ns.length:=Fn.mpr h0;obtain⟨b1,b2⟩:=argBest_lt (numAt zs) (zs.size - 1);refine⟨?_,λa ha=>?_⟩
 ·rw[dG hn,Eb,D9 ⋯]
  exact Es _
 ·obtain⟨j,hj,rfl⟩:=GR.mp ha
  have:=b2 j ⋯;rw[dG hn j,Eb,D9 hj]at this;exact this
theorem my{zs:Array (Int×Tok)}{ns:List Int}(hn:zs.toList.map (·.1)=ns)(h0:ns≠[]):let M:=numAt zs (argBest (λi j=>decide (numAt zs i > numAt zs j)) (zs.size - 1));M∈ns/\∀a∈ns,a<=M:=by
 have hz:ns.length=zs.size:=by rw[<-hn];simp
 have hp:0<ns.length:=Fn.mpr h0;obtain⟨b1,b2⟩:=argBest_gt (numAt zs) (zs.size - 1);refine⟨?_,λa ha=>?_⟩
 ·rw[dG hn,Eb,D9 ⋯]
  exact Es _
 ·obtain⟨j,hj,rfl⟩:=GR.mp ha
  have:=b2 j ⋯;rw[dG hn j,Eb,D9 hj]at this;exact this
theorem dH{ns:List Int}(rv:Vals (ns.map Og) its):∃zs:Array (Int×Tok),its.toArray=OR zs/\zs.toList.map (·.1)=ns:=by
 have hi:Ox its ns:=bY rv;obtain⟨zs,hx⟩:=hi.allInts.items;have hn:numsOf its.toArray.toList=ns:=by rw[show its.toArray.toList=its from rfl,hi.numsOf]
 rw[hx,nums_intItems]at hn;exact⟨zs,hx,hn⟩
theorem jQ {t:Addr}{items:Array Value}(ht:h.IsTuple t items):∀b∈[h.objs.size,t],b<(h.push { cls:=.type "tuple_iterator",data:=.fields #[.ref t,.int 0 0] }).objs.size:=by
 intro b hb;rw[Ip];obtain⟨_,e,_⟩:=ht;simp only[EA,EZ,or_false]at hb;rcases hb with rfl|rfl
 ·exact Jc _
 ·exact Gm (Ew e)
theorem mz{g:Heap}{o:Obj}(hk:∀b u,b∉[h.objs.size]->(h.push o).get? b=some u->g.get? b=some u):∀b u,h.get? b=some u->g.get? b=some u:=λb u e=>by
 refine hk b u ?_ (El _ e);intro hm;have e2:b=h.objs.size:=by simpa using hm
 exact absurd (e2▸Ew e) (FC _)
theorem pk {K:Ec}(hc:X.calm=true) (hK:X.K=K:=by rfl):QC X (.builtin "min") (zj K):=by
 subst hK;refine⟨λpins s σ H xs us Q I r h=>?_⟩;obtain⟨p,ns,rfl,hq,h0,q⟩:=h;obtain⟨u,rfl,ru⟩:=cx r;cases ru;rcases hq with hq|hq
 ·obtain⟨its,rv,hp,hz⟩:=I.list hq
  obtain⟨zs,hx,hn⟩:=dH rv;have hl:=hp.isList;rw[hx]at hl;obtain⟨m1,m2⟩:=mx hn h0;refine min_intList (I.ok.hd hc) hl ?_ λv h' tk hv hk=>?_
  ·have:zs.toList.length=ns.length:=by rw[<-hn];simp
   have:=Fn.mpr h0;simp at *;lia
  ·obtain⟨t,rfl⟩:=intItems_at hv
   exact⟨.int _,H,I.kept hk,⟨t,rfl⟩,q _ m1 m2⟩
 ·obtain⟨its,rv,hp,hz⟩:=I.tuple hq
  obtain⟨zs,hx,hn⟩:=dH rv;have ht:s.heap.IsTuple p (OR zs):=by rw[<-hx];exact hp
  have hlt:p<s.heap.objs.size:=by obtain⟨_,e,_⟩:=ht;exact Ew e
  obtain⟨m1,m2⟩:=mx hn h0;refine call_min_walk (wpAny_pyIter_tuple ht ?_);refine⟨_,_,_,_,_,_,_,rfl,Nf (A:=X.A.in1) (I.ok.hd hc) _ p (EK hlt) (OR zs),⟨⟨_,EH _ rfl,rfl,rfl⟩,ht.push _⟩,jQ ht,?_,CmpOf.ints_lt (numAt zs) (λ_ _=>intItems_at),λv h' tk hv hk=>?_⟩
  ·have:zs.toList.length=ns.length:=by rw[<-hn];simp
   have:=Fn.mpr h0;simp[OR]at *;lia
  ·have hv':(OR zs)[argBest (λi j=>decide (numAt zs i<numAt zs j)) (zs.size - 1)]? = some v:=by simpa [OR]using hv
   obtain⟨t,rfl⟩:=intItems_at hv';exact⟨.int _,H,I.kept (mz hk),⟨t,rfl⟩,q _ m1 m2⟩
theorem pq {K:Ec}(hc:X.calm=true) (hK:X.K=K:=by rfl):QC X (.builtin "max") (zk K):=by
 subst hK;refine⟨λpins s σ H xs us Q I r h=>?_⟩;obtain⟨p,ns,rfl,hq,h0,q⟩:=h;obtain⟨u,rfl,ru⟩:=cx r;cases ru;rcases hq with hq|hq
 ·obtain⟨its,rv,hp,hz⟩:=I.list hq
  obtain⟨zs,hx,hn⟩:=dH rv;have hl:=hp.isList;rw[hx]at hl;obtain⟨m1,m2⟩:=my hn h0;refine max_intList (I.ok.hd hc) hl ?_ λv h' tk hv hk=>?_
  ·have:zs.toList.length=ns.length:=by rw[<-hn];simp
   have:=Fn.mpr h0;simp at *;lia
  ·obtain⟨t,rfl⟩:=intItems_at hv
   exact⟨.int _,H,I.kept hk,⟨t,rfl⟩,q _ m1 m2⟩
 ·obtain⟨its,rv,hp,hz⟩:=I.tuple hq
  obtain⟨zs,hx,hn⟩:=dH rv;have ht:s.heap.IsTuple p (OR zs):=by rw[<-hx];exact hp
  have hlt:p<s.heap.objs.size:=by obtain⟨_,e,_⟩:=ht;exact Ew e
  obtain⟨m1,m2⟩:=my hn h0;refine call_max_walk (wpAny_pyIter_tuple ht ?_);refine⟨_,_,_,_,_,_,_,rfl,Nf (A:=X.A.in1) (I.ok.hd hc) _ p (EK hlt) (OR zs),⟨⟨_,EH _ rfl,rfl,rfl⟩,ht.push _⟩,jQ ht,?_,Mq (numAt zs) (λ_ _=>intItems_at),λv h' tk hv hk=>?_⟩
  ·have:zs.toList.length=ns.length:=by rw[<-hn];simp
   have:=Fn.mpr h0;simp[OR]at *;lia
  ·have hv':(OR zs)[argBest (λi j=>decide (numAt zs i > numAt zs j)) (zs.size - 1)]? = some v:=by simpa [OR]using hv
   obtain⟨t,rfl⟩:=intItems_at hv';exact⟨.int _,H,I.kept (mz hk),⟨t,rfl⟩,q _ m1 m2⟩
end
section
variable{K:Ec}{H:Hp}{Q:VK}
theorem pv{ns:List Int}(hs:SqL K H p (ns.map Og)\/SqT K H p (ns.map Og))(h0:ns≠[])(h:∀M,M∈ns->(∀a∈ns,M<=a)->Q (.int M) H):zj K [.ref p] H Q:=⟨p,ns,rfl,hs,h0,h⟩
theorem pw{ns:List Int}(hs:SqL K H p (ns.map Og)\/SqT K H p (ns.map Og))(h0:ns≠[])(h:∀M,M∈ns->(∀a∈ns,a<=M)->Q (.int M) H):zk K [.ref p] H Q:=⟨p,ns,rfl,hs,h0,h⟩
end
section
variable{prog:Program}{w:World}{A:Around}{E:Value->Shared->Prop}{s:Shared}
end
def B3(K:Ec)(a:Addr):It:=
 ⟨λi H=>∃xs x,SqL K H a xs/\xs[i]? = some x,λi H v H'=>∃p x,v=.ref p/\H p=none/\H'=upd H p (.tup [.int i,x])/\∀xs,SqL K H a xs->xs[i]? = some x,λi H=>∃xs,SqL K H a xs/\xs.length=i⟩
theorem gi{b:Addr}{o u:Obj}{x y:String}(e1:h.get? a=some o)(c1:o.cls=.type x)(e2:h.get? b=some u)(c2:u.cls=.type y)(hn:x≠y):a≠b:=λz=>by
 subst z;rw[e1]at e2;cases e2;rw[c1]at c2;exact hn (by injection c2)
theorem Inv.pair{H:Hp}{s:Shared}{g:Heap}{v:Value}{x y:V}(I:Inv X pins σ H s)(k:∀b o,b∉ch->s.heap.get? b=some o->g.get? b=some o)(hf:∀b∈ch,qS X pins H b)
  (hg:g.get? s.heap.objs.size=some { cls:=.type "tuple",data:=.seq #[u,v] }) (rx:RelV x u) (ry:RelV y v):Inv X pins σ (upd H s.heap.objs.size (.tup [x,y])) { s with heap:=g,toks:=tk }/\H s.heap.objs.size=none:=by
 have I1:Inv X pins σ H { s with heap:=g,toks:=tk }:=I.turnedAll k hf;have hn:H s.heap.objs.size=none:=I.hok.fresh (Ed _);obtain⟨_,f1,f2,f3,f4,f5⟩:=I.fpOk (Ed _) hn;refine⟨I1.adopt hn f1 f3 f4 f5 ?_,hn⟩;exact⟨by show 2<=Oo;decide,[u,v],.cons rx (.cons ry .nil),⟨_,hg,rfl,_,rfl⟩⟩
theorem nL{w:World}{K:Ec}{elts:List Expr}(a e it:Addr)(hei:e≠it):Turn P w K (.Tuple elts k pos) (B3 K a) [e,it] e (λi h=>(∃old,IsEnum h e it i old)/\h.IsListIter it a i) where
 mem:=by simp
 obj:=λi h st b hb=>by
  obtain⟨⟨old,q⟩,o,q1,q2,q3⟩:=st;simp only[EA,EZ,or_false]at hb;rcases hb with rfl|rfl
  ·exact⟨_,q,λv z=>by cases z⟩
  ·exact⟨o,q1,λv z=>by rw[q3]at z;cases z⟩
 keep:=λi h h' st kk=>by
  obtain⟨⟨old,q⟩,o,q1,q2⟩:=st;exact⟨⟨old,kk e (by simp) _ q⟩,o,kk it (by simp) o q1,q2⟩
 item:=by
  intro X hP hw hK hc i pins s σ H E I hf st hg;subst hP hw hK;obtain⟨xs,x,hq,hx⟩:=hg;obtain⟨its,rv,p,hz⟩:=I.list hq;obtain⟨u,hu,ru⟩:=rv.get hx;have hl:=rv.length;have hil:i<its.toArray.size:=by have:=(Ei.mp hu).1;simpa using this
  obtain⟨⟨old,q⟩,q2⟩:=st;have hne:a≠it:=by
   obtain⟨o1,g1,g2,_⟩:=p.isList;obtain⟨o2,g3,g4,_⟩:=q2;exact gi g1 g2 g3 g4 (by decide)
  have hea:e≠a:=by
   obtain⟨o1,g1,g2,_⟩:=p.isList;exact gi q rfl g1 g2 (by decide)
  refine wpAny_pyNext_enum_itemD (Nv (A:=X.A.in1) (I.ok.hd hc) it a hne its.toArray) q ⟨q2,p.isList⟩ hil hei (by simp[hei,hea]) λy h' tk hP ho hs' hT hsz hk=>⟨_,rfl,wpAny_letOwnedTupleGo_enum ho λg he' sb=>?_⟩
  have ey:y=u:=by
   have h1:its.toArray[i]? = some u:=by simpa using hu
   exact EE (hP.symm.trans h1)
  subst ey;have hTe:s.heap.objs.size≠e:=Hz (Ew q);have lt2:it<s.heap.objs.size:=by obtain⟨o2,g3,_⟩:=q2;exact Ew g3
  obtain⟨I2,hn⟩:=I.pair (g:=g) (tk:=tk+1) (ch:=[e,it]) (x:=.int i) (y:=x) (λb o hb r=>(sb.2 b (λz=>hb (by simp[z]))).trans (hk b o (λz=>hb (by simp[z])) (λz=>hb (by simp[z])) r)) hf ((sb.2 _ hTe).trans hT) ⟨tk,rfl⟩ ru;refine⟨.ref s.heap.objs.size,_,I2,rfl,⟨_,x,rfl,hn,rfl,λys hy=>by rw[I.list_inj hy hq];exact hx⟩,⟨⟨_,by simpa using he'⟩,hs'.1.at λo r=>(sb.2 it hei.symm).trans r⟩,λb hb=>?_⟩;simp only[EA,EZ,or_false]at hb;rcases hb with rfl|rfl
  ·rw[ar hTe.symm];exact(hf _ (by simp)).1
  ·rw[ar (EK lt2)];exact(hf _ (by simp)).1
 done:=by
  intro X hP hw hK hc i pins s σ H E I hf st hg;subst hP hw hK;obtain⟨xs,hq,hx⟩:=hg;obtain⟨its,rv,p,hz⟩:=I.list hq;obtain⟨⟨old,q⟩,q2⟩:=st;have hl:=rv.length;have hne:a≠it:=by
   obtain⟨o1,g1,g2,_⟩:=p.isList;obtain⟨o2,g3,g4,_⟩:=q2;exact gi g1 g2 g3 g4 (by decide)
  have hi:its.toArray.size=i:=by simp;lia
  subst hi;refine wpAny_pyNext_enum_endD (Nv (A:=X.A.in1) (I.ok.hd hc) it a hne its.toArray) q ⟨q2,p.isList⟩ λh' eb=>⟨rfl,I.turnedAll (t':=s.toks) (ch:=[it]) (λb o hb r=>eb b o (λz=>hb (by simp[z])) r) λb hb=>hf b (by simp at hb;simp[hb])⟩
 self:=λ_ _ _ _ _ st h=>by
  obtain⟨⟨old,q⟩,_⟩:=st;exact wpAny_pyIter_enum q h
def Itz(K:Ec)(a b:Addr):It:=
 ⟨λi H=>∃xs ys x y,SqL K H a xs/\SqL K H b ys/\xs[i]? = some x/\ys[i]? = some y,λi H v H'=>∃p x y,v=.ref p/\H p=none/\H'=upd H p (.tup [x,y])/\(∀xs,SqL K H a xs->xs[i]? = some x)/\∀ys,SqL K H b ys->ys[i]? = some y,λi H=>∃xs ys,SqL K H a xs/\SqL K H b ys/\(xs.length<=i\/ys.length<=i)⟩
theorem rS{w:World}{K:Ec}{elts:List Expr}(a b z TI TO i1 i2:Addr)(D:ZipApart z TI TO i1 i2 a b):
  Turn P w K (.Tuple elts k pos) (Itz K a b) [z,TI,TO,i1,i2] z (λi h=>IsZip h z TI TO .none/\IsPair h TI (.ref i1) (.ref i2)/\(∃u v,IsPair h TO u v)/\h.IsListIter i1 a i/\h.IsListIter i2 b i) where
 mem:=by simp
 obj:=λi h st c hb=>by
  obtain⟨q1,q2,⟨u,v,q3⟩,⟨o4,q4,_,d4⟩,⟨o5,q5,_,d5⟩⟩:=st;simp only[EA,EZ,or_false]at hb;rcases hb with rfl|rfl|rfl|rfl|rfl
  ·exact⟨_,q1,λv z=>by cases z⟩
  ·exact⟨_,q2,λv z=>by cases z⟩
  ·exact⟨_,q3,λv z=>by cases z⟩
  ·exact⟨o4,q4,λv z=>by rw[d4]at z;cases z⟩
  ·exact⟨o5,q5,λv z=>by rw[d5]at z;cases z⟩
 keep:=λi h h' st kk=>by
  obtain⟨q1,q2,⟨u,v,q3⟩,⟨o4,q4,r4⟩,⟨o5,q5,r5⟩⟩:=st;exact⟨kk z (by simp) _ q1,kk TI (by simp) _ q2,⟨u,v,kk TO (by simp) _ q3⟩,⟨o4,kk i1 (by simp) _ q4,r4⟩,⟨o5,kk i2 (by simp) _ q5,r5⟩⟩
 item:=by
  intro X hP hw hK hc i pins s σ H E I hf st hg;subst hP hw hK;obtain⟨xs,ys,x,y,hqx,hqy,hx,hy⟩:=hg;obtain⟨its,rv,p,hz⟩:=I.list hqx;obtain⟨jts,rw',p',hz'⟩:=I.list hqy;obtain⟨u,hu,ru⟩:=rv.get hx;obtain⟨v,hv,rv'⟩:=rw'.get hy;obtain⟨q1,q2,⟨u3,v3,q3⟩,q4,q5⟩:=st;have l1:=Ew q1;have l2:=Ew q2;have l3:=Ew q3;have l4:i1<s.heap.objs.size:=by obtain⟨o,g,_⟩:=q4;exact Ew g
  have l5:i2<s.heap.objs.size:=by obtain⟨o,g,_⟩:=q5;exact Ew g
  refine wpAny_pyNext_zip_item D q1 q2 q3 q4 q5 p.isList p'.isList (x:=u) (y:=v) (by simpa using hu) (by simpa using hv) λh' a1 a2 a3 a4 a5 a6 a7=>⟨_,rfl,wpAny_letOwnedTupleGo_zip a1 λg hz2 sb=>?_⟩
  obtain⟨I2,hn⟩:=I.pair (g:=g) (tk:=s.toks) (ch:=[z,TO,i1,i2]) (x:=x) (y:=y) (λc o hb r=>(sb.2 c (λe=>hb (by simp[e]))).trans (a7 c o (λe=>hb (by simp[e])) (λe=>hb (by simp[e])) (λe=>hb (by simp[e])) (λe=>hb (by simp[e])) r)) (λc hb=>hf c (by simp at hb;rcases hb with e|e|e|e<;>simp[e])) ((sb.2 _ (Hz l1)).trans a5) ru rv';refine⟨.ref s.heap.objs.size,_,I2,rfl,⟨_,x,y,rfl,hn,rfl,λzs h=>by rw[I.list_inj h hqx];exact hx,λzs h=>by rw[I.list_inj h hqy];exact hy⟩,⟨hz2,?_,⟨_,_,(sb.2 _ D.TOz).trans a2⟩,a3.at λo r=>(sb.2 i1 D.i1z).trans r,a4.at λo r=>(sb.2 i2 D.i2z).trans r⟩,λc hb=>?_⟩
  ·exact(sb.2 _ D.TIz).trans (a7 TI _ D.TIz D.TITO D.TIi1 D.TIi2 q2)
  ·have hc0:=(hf c hb).1
   simp only[EA,EZ,or_false]at hb;have:c<s.heap.objs.size:=by rcases hb with rfl|rfl|rfl|rfl|rfl<;>assumption
   rw[ar (EK this)];exact hc0
 done:=by
  intro X hP hw hK hc i pins s σ H E I hf st hg;subst hP hw hK;obtain⟨xs,ys,hqx,hqy,hx⟩:=hg;obtain⟨its,rv,p,hz⟩:=I.list hqx;obtain⟨jts,rw',p',hz'⟩:=I.list hqy;have m1:=rv.length;have m2:=rw'.length;obtain⟨q1,q2,⟨u3,v3,q3⟩,q4,q5⟩:=st;refine wpAny_pyNext_zip_end (I.ok.hd hc) D q1 q2 q3 q4 q5 p.isList p'.isList ?_ λh' kk=>⟨rfl,I.turnedAll (t':=s.toks) (ch:=[z,TO,i1,i2]) (λc o hb r=>kk c o (λe=>hb (by simp[e])) (λe=>hb (by simp[e])) (λe=>hb (by simp[e])) (λe=>hb (by simp[e])) r) (λc hb=>hf c (by simp at hb;rcases hb with e|e|e|e<;>simp[e]))⟩
  rcases hx with h|h
  ·exact .inl (by simp;lia)
  ·exact .inr (by simp;lia)
 self:=λ_ _ _ _ _ st h=>wpAny_pyIter_zip st.1 h
section
variable{X:Cx}{a b:Expr}{t:TA}{p pos tpos:Pos}{ts:List Expr}{k:Nat}
def uD(K:Ec)(t:TA):TI:=λσ H R=>t σ H λvs H1=>∃a,vs=[.ref a]/\(∃xs,SqL K H1 a xs)/\R (B3 K a) H1
def Dg(K:Ec)(t:TA):TI:=λσ H R=>t σ H λvs H1=>∃a b,vs=[.ref a,.ref b]/\(∃xs,SqL K H1 a xs)/\(∃ys,SqL K H1 b ys)/\R (Itz K a b) H1
theorem gj {K:Ec}(hg:Gl X "enumerate") (hm:X.mg "enumerate" = none) (ha:QA X [a] t) (hn:bK a=true:=by rfl) (hK:X.K=K:=by rfl):QI X (.Tuple ts k tpos) (.Call (.Name "enumerate" p) [a] [] pos) (uD K t):=by
 subst hK;refine⟨λpins s σ H R I h=>?_⟩;refine Call_ (dr I hg hm (by decide +kernel:bootBuiltins "enumerate" = some (.type "enumerate")) (Fd (thn (ha.out pos pins s σ H _ I h) λus s1 ⟨vs,H1,I1,r1,q1⟩=>?_) (aL hn) rfl));obtain⟨l,e,⟨xs,hq⟩,q⟩:=q1;subst e;cases r1 with
 | cons r rr=>
  cases rr;cases r;obtain⟨its,rv,pl,hz⟩:=I1.list hq;refine call_enumerate_list pl.isList λg h1 h2 h3 h4=>wpAny_pyIter_enum h1 ?_
  have I2:Inv X pins σ H1 { s1 with heap:=g }:=I1.kept (t':=s1.toks) h4;refine⟨s1.heap.objs.size+1,[s1.heap.objs.size+1,s1.heap.objs.size],_,_,H1,rfl,I2,nL l _ _ (Lg _),⟨⟨_,h1⟩,h2⟩,λc hc=>?_,q⟩;have hle:s1.heap.objs.size<=c:=by
   simp only[EA,EZ,or_false]at hc;rcases hc with rfl|rfl
   ·exact GV _
   ·exact Ed _
  exact I1.fpOk hle (I1.hok.fresh hle)
theorem zl {K:Ec}(hg:Gl X "zip") (hm:X.mg "zip" = none) (ha:QA X [a,b] t) (hn:bK a=true:=by rfl) (hn2:bK b=true:=by rfl) (hK:X.K=K:=by rfl):QI X (.Tuple ts k tpos) (.Call (.Name "zip" p) [a,b] [] pos) (Dg K t):=by
 subst hK;refine⟨λpins s σ H R I h=>?_⟩;have e2:Ot [b] X.env=[(false,eval b X.env)]:=aL hn2;refine Call_ (dr I hg hm (by decide +kernel:bootBuiltins "zip" = some (.type "zip")) (Fd (thn (ha.out pos pins s σ H _ I h) λus s1 ⟨vs,H1,I1,r1,q1⟩=>?_) (aL hn) (by rw[e2];rfl)));obtain⟨l,m,e,⟨xs,hq⟩,⟨ys,hq'⟩,q⟩:=q1;subst e;cases r1 with
 | cons r rr=>
  cases rr with
  | cons r' rr=>
   cases rr;cases r;cases r';obtain⟨its,rv,pl,hz⟩:=I1.list hq;obtain⟨jts,rw',pl',hz'⟩:=I1.list hq';have a1:l<s1.heap.objs.size:=by obtain⟨o,g,_⟩:=pl.isList;exact Ew g
   have a2:m<s1.heap.objs.size:=by obtain⟨o,g,_⟩:=pl'.isList;exact Ew g
   refine call_zip_2 pl.isList pl'.isList λg h1 h2 h3 h4 h5 h6 h7=>wpAny_pyIter_zip h1 ?_
   have I2:Inv X pins σ H1 { s1 with heap:=g }:=I1.kept (t':=s1.toks) h7;refine⟨_,_,_,_,H1,rfl,I2,rS l m _ _ _ _ _ (zipApart_new a1 a2),⟨h1,h2,⟨_,_,h3⟩,h4,h5⟩,λc hc=>?_,q⟩;have hle:s1.heap.objs.size<=c:=by
    simp only[EA,EZ,or_false]at hc;rcases hc with rfl|rfl|rfl|rfl|rfl
    ·exact Ga _ _
    ·exact Ga _ _
    ·exact Ga _ _
    ·exact Ed _
    ·exact Ga _ _
   exact I1.fpOk hle (I1.hok.fresh hle)
end
section
variable{K:Ec}{σ:St}{H:Hp}{Q:VK}{D:Ends}{g:TG}{te:TE}{tb:TS}
theorem AM{R:It->Hp->Prop}(h:t σ H λvs H1=>∃a,vs=[.ref a]/\(∃xs,SqL K H1 a xs)/\R (B3 K a) H1):uD K t σ H R:=h
theorem Dh{R:It->Hp->Prop}(h:t σ H λvs H1=>∃a b,vs=[.ref a,.ref b]/\(∃xs,SqL K H1 a xs)/\(∃ys,SqL K H1 b ys)/\R (Itz K a b) H1):Dg K t σ H R:=h
theorem gm{J:It}(Pv:Nat->St->Hp->Prop)(h0:Pv 0 σ H)(hgo:∀i σ H,i<n->Pv i σ H->J.go i H)(hst:∀σ H,Pv n σ H->J.stop n H)
  (hs:∀i x σ H H',i<n->Pv i σ H->J.yld i H x H'->g x σ H' λσ2 H2=>tb { D with nx:=Pv (i+1),ct:=Pv (i+1),bk:=D.nx } σ2 H2) (hd:∀σ H,Pv n σ H->D.nx σ H) :
  ∃W:Nat->Nat->St->Hp->Prop,(∃m,W 0 m σ H)/\∀i m σ H,W i m σ H->
   (J.stop i H/\D.nx σ H)\/(J.go i H/\∃N:St->Hp->Prop,(∀σ' H',N σ' H'->∃m',m'<m/\W (i+1) m' σ' H')/\∀x H',J.yld i H x H'->g x σ H' λσ2 H2=>tb { D with nx:=N,ct:=N,bk:=D.nx } σ2 H2):=by
 refine⟨λi m σ H=>m=n - i/\i<=n/\Pv i σ H,⟨n,by simp,Eo _,h0⟩,?_⟩;rintro i m σ H ⟨rfl,hi,p⟩;by_cases hlt:i<n
 ·exact .inr ⟨hgo i σ H hlt p,Pv (i+1),λσ' H' p'=>⟨n - (i+1),by lia,rfl,hlt,p'⟩,λx H' y=>hs i x σ H H' hlt p y⟩
 ·have e:i=n:=by lia
  subst e;exact .inl ⟨hst σ H p,hd σ H p⟩
theorem iU{J:It}{σ0:St}{R:List V->Hp->Prop}(Pv:Nat->List V->St->Hp->Prop)(hz:n<Oo)(hl:∀i ys σ H,Pv i ys σ H->ys.length=i)(h0:Pv 0 [] σ0 H)(hgo:∀i ys σ H,i<n->Pv i ys σ H->J.go i H)(hst:∀ys σ H,Pv n ys σ H->J.stop n H)
  (hs:∀i x ys σ H H',i<n->Pv i ys σ H->J.yld i H x H'->g x σ H' λσ2 H2=>te σ2 H2 λy H3=>Nx n i (Pv (i+1) (ys++[y]) σ2 H3)) (hd:∀ys σ H,Pv n ys σ H->R ys H) :
  ∃W:Nat->Nat->List V->St->Hp->Prop,(∃m,W 0 m [] σ0 H)/\∀i m xs σc H,W i m xs σc H->xs.length<Oo/\
  ((J.stop i H/\R xs H)\/(J.go i H/\∀x H',J.yld i H x H'->g x σc H' λσ2 H2=>te σ2 H2 λy H3=>∃m',m'<m/\W (i+1) m' (xs++[y]) σ2 H3)):=by
 refine⟨λi m xs σ H=>m=n - i/\i<=n/\Pv i xs σ H,⟨n,by simp,Eo _,h0⟩,?_⟩;rintro i m xs σ H ⟨rfl,hi,p⟩;refine⟨by rw[hl i xs σ H p];exact E6 hi hz,?_⟩;by_cases hlt:i<n
 ·exact .inr ⟨hgo i xs σ H hlt p,λx H' y=>hs i x xs σ H H' hlt p y⟩
 ·have e:i=n:=by lia
  subst e;exact .inl ⟨hst xs σ H p,hd xs σ H p⟩
end
section
variable{K:Ec}{σ:St}{H:Hp}{Q:VK}{D:Ends}
theorem Di(h:Q (.bl (decide (Oh x=Oh y))) H):rEq (.str x) (.str y) H Q:=⟨rfl,h⟩
theorem Dj{R:Bool->Hp->Prop}(h:ta σ H λx H'=>∃k,uo K x H' k/\R k H'):Dc K ta σ H R:=h
theorem DQ{r:V->Option Int->Option Int->Hp->VK->Prop}{te:TE}{tl th:TO}(h:te σ H λx H1=>tl σ H1 λl H2=>th σ H2 λu H3=>r x l u H3 Q):tSl r te tl th σ H Q:=h
theorem B4{t:TE}{R:Option Int->Hp->Prop}(h:t σ H λx H1=>∃i,x=.int i/\R (some i) H1):vM t σ H R:=h
theorem pz{R:Option Int->Hp->Prop}(h:R none H):kX σ H R:=h
theorem aY{x y:V}{R:St->Hp->Prop}(e:H p=some (.tup [x,y]))(h:R ((σ.set i (some x)).set j (some y)) H):AD K 2 (kU (dm i) (kU (dm j) AC)) (.ref p) σ H R:=
 ⟨p,_,rfl,Of e,rfl,_,_,rfl,_,_,rfl,rfl,h⟩
theorem AN(h:SqL K H p xs):uo K (.ref p) H (!xs.isEmpty):=.inl ⟨xs,h,rfl⟩
theorem DR(h:SqT K H p xs):uo K (.ref p) H (!xs.isEmpty):=.inr (.inl ⟨xs,h,rfl⟩)
theorem wt{α:Type}{G:Prop}{S B:α->Hp->Prop}(hA:(∀a H,S a H->B a H)->G)(hB:∀a H,S a H->B a H):G:=hA hB
theorem aF{α:Type}{f:α->V}{xs:List α}{x:V}(h:(xs.map f)[i]? = some x):∃z,x=f z/\xs[i]? = some z/\z∈xs/\i<xs.length:=by
 rw[Eh]at h;cases e:xs[i]? with
 | none=>rw[e]at h;cases h
 | some z=>rw[e]at h;exact⟨z,(EE h).symm,rfl,Ez e,(Ei.mp e).1⟩
theorem Stp.own(a:Stp p H H1)(h:H l=none)(n:l≠p):Stp p H (upd H1 l o):=by
 obtain⟨x,y,z,e,q⟩:=a.tape;exact⟨λb u e1 e2=>by rw[ar (aj e1 h)];exact a.keep b u e1 e2,⟨x,y,z,by rw[ar (E2 n)];exact e,q⟩⟩
end
def RowsAt(H:Hp)(ps:List Addr)(b m:Nat)(zs:List Nat):Prop:=ps.length=zs.length/\∀(i:Nat) (p:Addr) (z:Nat),ps[i]? = some p->zs[i]? = some z->H p=some (.tup ((dg z b m).map Og))
theorem RowsAt.same{H:Hp}(h:RowsAt H ps b m zs)(e:Same H H1):RowsAt H1 ps b m zs:=⟨h.1,λi p z a c=>e _ _ (h.2 i p z a c)⟩
theorem RowsAt.snoc{H:Hp}{z:Nat}(h:RowsAt H ps b m zs)(e:H p=some (.tup ((dg z b m).map Og))):RowsAt H (ps++[p]) b m (zs++[z]):=by
 refine⟨by simp[h.1],λi q y a c=>?_⟩;rcases bM a with⟨l,a⟩|⟨l,a⟩
 ·rcases bM c with⟨_,c⟩|⟨l',c⟩
  ·exact h.2 i q y a c
  ·have:=h.1;lia
 ·rcases bM c with⟨l',c⟩|⟨_,c⟩
  ·have:=h.1;lia
  ·rw[a,c];exact e
def Spelt(ns:List Int)(b:Nat)(zs:List Nat)(m:Nat):Prop:=(ns=[]/\zs=[]/\m=0)\/∃lo hi:Int,lo∈ns/\hi∈ns/\(∀x∈ns,lo<=x/\x<=hi)/\zs=ns.map (λx=>(x - lo).toNat)/\(hi - lo).toNat<b ^ m/\(0<m->b ^ (m - 1)<=(hi - lo).toNat)/\m<201
theorem Spelt.len{ns:List Int}(h:Spelt ns b zs m):zs.length=ns.length:=by
 rcases h with⟨rfl,rfl,_⟩|⟨lo,hi,_,_,_,rfl,_⟩
 ·rfl
 ·simp
theorem Spelt.few{ns:List Int}(h:Spelt ns b zs m):m<201:=by
 rcases h with⟨rfl,rfl,rfl⟩|⟨lo,hi,_,_,_,rfl,_,_,h⟩
 ·decide
 ·exact h
theorem Spelt.at{ns:List Int}(h:Spelt ns b zs m)(hb:2<=b){x:Int}{z:Nat}(hx:ns[i]? = some x)(hz:zs[i]? = some z):z<b ^ m/\∀lo,lo∈ns->(∀y∈ns,lo<=y)->x - lo=z:=by
 rcases h with⟨rfl,rfl,rfl⟩|⟨lo,hi,h1,h2,h3,rfl,h4,h5,h6⟩
 ·simp at hx
 ·rw[Eh,hx]at hz
  have ez:(x - lo).toNat=z:=EE hz;have hm:=h3 x (Ez hx);refine⟨by lia,λlo' g1 g2=>?_⟩;have a1:=g2 lo h1;have a2:=(h3 lo' g1).1;lia
section
variable{X:Cx}{e:Expr}{te:TE}{g:TG}{pos tpos:Pos}{ts:List Expr}{k:Nat}
theorem cv(he:QE X e te)(hg:QG X (.Tuple ts k tpos) g)(hs:OO [.Tuple ts k tpos] e pos.line X.env=pure false:=by rfl)(hw:OP [.Tuple ts k tpos] e X.env=pure none:=by rfl)
  (h1:(OE [.Tuple ts k tpos] X.env).map (·.2)=[assign (.Tuple ts k tpos) X.env]:=by rfl):QS X (.Assign [.Tuple ts k tpos] e pos) (nj te g):=⟨oq he.out hg.out hs hw h1⟩
end
section
variable{K:Ec}{σ:St}{H:Hp}
end
theorem jR{i:Int}(e:i=j)(h:j<n):ixN n i=some j:=by
 subst e;unfold ixN;rw[if_pos ⋯,if_pos ⋯];simp
noncomputable def bH(tb:List (Int×Nat)):List Int:=tb.map λz=>z.1*((d6 (tb.map (·.2)) / z.2:Nat):Int)
theorem bD(tb:List (Int×Nat)):(bH tb).length=tb.length:=by simp[bH]
theorem pA{tb:List (Int×Nat)}(hb:∀z∈tb,1<=z.2/\z.2<=60)(ht:∀z∈tb,-(10 ^ 18)<z.1/\z.1<10 ^ 18):∀x∈bH tb,-(2 ^ 190)<x/\x<2 ^ 190:=by
 intro x hx;obtain⟨z,hz,rfl⟩:=EC.mp hx;have h1:=ht z hz;have hM:d6 (tb.map (·.2))∣xX:=zi λb h=>by
  obtain⟨y,hy,rfl⟩:=EC.mp h;exact hb y hy
 have h2:d6 (tb.map (·.2))<=xX:=II (by decide +kernel) hM;have h3:xX<2 ^ 90:=by decide +kernel
 have h4:d6 (tb.map (·.2)) / z.2<=d6 (tb.map (·.2)):=LO _ _;generalize d6 (tb.map (·.2)) / z.2=c at h4;have h5:c<2 ^ 90:=by lia
 have h6:z.1.natAbs<2 ^ 60:=by lia
 have h7:(z.1*(c:Int)).natAbs<2 ^ 150:=by
  rw[Mb,IB]
  calc z.1.natAbs*c<2 ^ 60*2 ^ 90:=Nat.mul_lt_mul'' h6 h5
   _=2 ^ 150:=by decide
 lia
theorem pB:∀{xs:List V}{us:List Value},xs.length=us.length->(∀(i:Nat) x u,xs[i]? = some x->us[i]? = some u->RelV x u)->Vals xs us
 | [],[],_,_=>.nil
 | [],_::_,h,_=>by simp at h
 | _::_,[],h,_=>by simp at h
 | x::xs,u::us,h,r=>.cons (r 0 x u rfl rfl) (pB (by simpa using h) λi y v a b=>r (i+1) y v (by simpa using a) (by simpa using b))
section
variable{X:Cx}{a b e o:Expr}{es:List Expr}{t:TA}{te to tb:TE}{p p2 pos pos2 apos cpos tpos:Pos}
noncomputable def gU(lo n:Nat):List V:=(Ej n).map λi=>Og ((lo+i:Nat):Int)
def uE(t:TA):TE:=λσ H Q=>t σ H λvs H1=>∃j:Nat,vs=[.int j]/\j<=1000/\∀l,H1 l=none->Q (.ref l) (upd H1 l (.lst (gU 0 j)))
theorem DS{H:Hp}{s:Shared}{t u v:Tok}(hc:X.calm=true)(I:Inv X pins σ H s)(h1:i<=1000)(h2:j<=1000)(h3:i<=j)(q:∀l,H l=none->Q (.ref l) (upd H l (.lst (gU i (j - i))))):
  wpAny (model X.prog X.w) X.A (call (.type "list") [.ref s.heap.objs.size]) (EP X pins σ Q) X.xe { s with heap:=s.heap.push { cls:=.type "range",data:=.fields #[.int i t,.int j u,.int 1 v] },toks:=tk }:=by
 have I1:Inv X pins σ H { s with heap:=s.heap.push { cls:=.type "range",data:=.fields #[.int i t,.int j u,.int 1 v] },toks:=tk }:=I.kept λb o e=>El _ e
 refine call_list_range (n:=j - i) (I.ok.hd hc) (JC ..) (small_one ⋯ ⋯ ⋯ ⋯) (by rw[rangeSize_one];split<;>lia) ⋯ λh' tk' acc' c' hk hg hi=>?_
 obtain⟨hz,hit⟩:=hi;refine⟨.ref _,_,I1.laid (t':=tk') (o:=.lst (gU i (j - i))) hk (Ed _) ?_,rfl,q _ (I1.hok.fresh (Ed _))⟩;refine⟨by simp only[gU,Ea,E9];exact ax ⋯,acc'.toList,c',?_,?_⟩
 ·refine pB (by simp[gU,hz]) λk x w a b=>?_
  have hk':k<j - i:=by have:=(Ei.mp a).1;simpa [gU]using this
  unfold gU at a;rw[Eh,FH hk']at a;obtain rfl:=EE a;obtain⟨tt,rfl⟩:=hit k w (by simpa using b);refine⟨tt,?_⟩;rw[M9,Int.natCast_add]
 ·simpa using hg
theorem iV (hc:X.calm=true) (hgl:Gl X "list") (hml:X.mg "list" = none) (hgr:Gl X "range") (hmr:X.mg "range" = none) (ha:QA X [a] t) (hn:bK a=true:=by rfl):QE X (.Call (.Name "list" p) [.Call (.Name "range" p2) [a] [] pos2] [] pos) (uE t):=by
 refine⟨λpins s σ H Q I h=>?_⟩;refine Call_ (dr I hgl hml (by decide +kernel:bootBuiltins "list" = some (.type "list")) (Fd ?_ (aL rfl) rfl));refine Ko (Call_ (dr I hgr hmr boot_range (Fd (thn (ha.out pos2 pins s σ H _ I h) λus s1 ⟨vs,H1,I1,r1,q1⟩=>?_) (aL hn) rfl)));obtain⟨j,e,q1,q⟩:=q1;subst e;cases r1 with
 | cons r rr=>
  cases rr;obtain⟨tt,rfl⟩:=r;exact call_range_1 (KQ (DS (i:=0) hc I1 ⋯ q1 ⋯ q))
inductive TyB (H:Hp):V->Value->Prop where
 | non:TyB H .non (.type "NoneType")
 | int (i:Int):TyB H (.int i) (.type "int")
 | lst {a:Addr}{xs:List V}(e:H a=some (.lst xs)):TyB H (.ref a) (.type "list")
 | tup {a:Addr}{xs:List V}(e:H a=some (.tup xs)):TyB H (.ref a) (.type "tuple")
def zm (K:Ec):RC:=λxs H Q=>∃x t tp b,xs=[x,.ref tp]/\H tp=some (.tup [.ty "list",.ty "tuple"])/\TyB H x t/\Mc K t [.type "list",.type "tuple"]=some b/\Q (.bl b) H
theorem wu {K:Ec}(hK:X.K=K:=by rfl):QC X (.builtin "isinstance") (zm K):=by
 subst hK;refine⟨λpins s σ H xs us Q I r h=>?_⟩;obtain⟨x,t,tp,b,rfl,htp,ty,e,q⟩:=h;cases r with
 | cons rx rr=>
  cases rr with
  | cons ry rr=>
   cases rr;cases ry;obtain⟨_,its,rv,⟨⟨c,dd,dt,sl⟩,g1,g2,n,g3⟩⟩:=(show ObjOk X.prog X.w H s.heap tp (.tup [.ty "list",.ty "tuple"])from I.hok tp _ htp);have g2':c=.type "tuple":=g2;have g3':dt=.seq its.toArray n:=g3;subst g2' g3';have ei:its=[.type "list",.type "tuple"]:=by
    cases rv with
    | cons r1 rr=>
     cases rr with
     | cons r2 rr=>
      cases rr;cases r1;cases r2;rfl
   subst ei;have fin:∀tk,EP X pins σ Q (.bool b) { s with toks:=tk }:=λtk=>⟨.bl b,H,I.tok _,rfl,q⟩
   cases ty with
   | non=>cases(show _=Fb from rx);exact FJ IU I.kIn Ek g1 e (λz=>nomatch z) fin
   | int i=>obtain⟨tt,rfl⟩:=rx;exact FJ Jd I.kIn Ek g1 e (λz=>nomatch z) fin
   | @lst a xs ea=>
    cases rx;obtain⟨_,_,n',_,h1⟩:=(show ObjOk X.prog X.w H s.heap a (.lst xs)from I.hok a _ ea);exact FJ Hl I.kIn ⟨_,h1,rfl⟩ g1 e (λz=>nomatch z) fin
   | @tup a xs ea=>
    cases rx;obtain⟨_,_,_,⟨o',h1,h2,_⟩⟩:=(show ObjOk X.prog X.w H s.heap a (.tup xs)from I.hok a _ ea);exact FJ Iu I.kIn ⟨_,h1,h2⟩ g1 e (λz=>nomatch z) fin
def Dk:R2:=λx y H Q=>y=.non/\Q (.bl (decide (x=.non))) H
theorem lr:QOp X (Ou .Is) Dk:=⟨yG⟩
end
section
variable{K:Ec}{σ:St}{H:Hp}{Q:VK}
theorem AO(h:t σ H λvs H1=>∃j:Nat,vs=[.int j]/\j<=1000/\∀l,H1 l=none->Q (.ref l) (upd H1 l (.lst (gU 0 j)))):uE t σ H Q:=h
theorem rT {tp:Addr}(s:H p=some (.lst xs)) (e:H tp=some (.tup [.ty "list",.ty "tuple"])) (h:Q (.bl true) H):zm K [.ref p,.ref tp] H Q:=⟨_,_,tp,_,rfl,e,.lst s,rfl,h⟩
theorem B5{x:V}(h:Q (.bl (decide (x=.non))) H):Dk x .non H Q:=⟨rfl,h⟩
end
section
variable{H H1 H2:Hp}{p q l:Addr}{o:HO}
end
noncomputable def NV(os:List Nat):List V:=os.map λo:Nat=>Og o
theorem aC(os:List Nat):(NV os).length=os.length:=by simp[NV]
theorem pC(os:List Nat):NV os=(os.map λo:Nat=>(o:Int)).map Og:=by rw[NV,FD];rfl
theorem eN{os:List Nat}{o:Nat}(h:os[i]? = some o):(NV os)[i]? = some (Og o):=by rw[NV,Eh,h];rfl
theorem iW{os:List Nat}{o:Nat}{k:Int}(e:k=i)(h:os[i]? = some o):atI (NV os) k=some (Og o):=by rw[e];exact aT (eN h)
theorem bZ(os:List Nat)(o:Nat):NV os++[Og o]=NV (os++[o]):=by simp[NV]
theorem iX(lo n:Nat):gU lo n=NV ((Ej n).map λi=>lo+i):=by simp[gU,NV]
section
variable{H H1:Hp}{ps:List Addr}{nss:List (List Nat)}
end
theorem pD{xs:List Nat}(hn:xs.Nodup)(hi:i<xs.length)(hj:j<xs.length)(e:xs[i]=xs[j]):i=j:=by
 rcases FG i j with h|h|h
 ·exact absurd e (EW.mp hn i j hi hj h)
 ·exact h
 ·exact absurd e.symm (EW.mp hn j i hj hi h)
theorem mB(os:List Nat)(i o:Nat):(NV os).set i (Og o)=NV (os.set i o):=by simp[NV,M1]
section
variable{X:Cx}{e:Expr}{te:TE}{pos p1 p2 p3 p4 p5:Pos}{j j':Nat}
end
structure Ord (os:List Nat) (n:Nat):Prop where
 len:os.length=n
 lt:∀x∈os,x<n
 inj:∀(i j r:Nat),os[i]? = some r->os[j]? = some r->i=j
 sur:∀x,x<n->∃i,i<n/\os[i]? = some x
theorem Ord.of_perm{os:List Nat}(h:os.Perm (Ej n)):Ord os n:=by
 have hl:os.length=n:=by have:=h.length_eq;rw[E9]at this;exact this
 refine⟨hl,λx hx=>ER.mp (h.mem_iff.mp hx),λi j r a b=>?_,λx hx=>?_⟩
 ·obtain⟨a1,a2⟩:=Ei.mp a
  obtain⟨b1,b2⟩:=Ei.mp b;exact pD (h.nodup_iff.mpr Lh) a1 b1 (by rw[a2,b2])
 ·obtain⟨i,hi⟩:=F0 (h.mem_iff.mpr (ER.mpr hx))
  exact⟨i,by have:=(Ei.mp hi).1;lia,hi⟩
theorem Ord.get{os:List Nat}(h:Ord os n)(hi:i<n):∃r,os[i]? = some r/\r<n:=by
 have hl:i<os.length:=by rw[h.len];exact hi
 exact⟨os[i],by simp[hl],h.lt _ (Es hl)⟩
noncomputable def cmp(one other:List Nat):List Nat:=other.map λj=>one.getD j 0
theorem lx{one other:List Nat}{r:Nat}(h1:other[i]? = some j)(h2:one[j]? = some r):(cmp one other)[i]? = some r:=by
 unfold cmp;rw[Eh,h1];show some (one.getD j 0)=some r
 rw[Eb,h2];rfl
theorem ff(one other:List Nat):(cmp one other).length=other.length:=by simp[cmp]
theorem bq{α:Type}{xs:List α}{x:α}(h:xs[i]? = some x):i<xs.length:=(Ei.mp h).1
section
variable{X:Cx}{N tgs frs:List Str}{ix:List Nat}{scope:Scope}{cl:List (Str×Addr)}
def jS(wi:TI)(g:TG)(tc:TT)(te:TE)(tgs:List Str)(ix:List Nat):TE:=λσ H Q=>wi σ H λJ H1=>
 ∃W:Nat->Nat->List V->St->Hp->Prop,(∃m,W 0 m [] (dO tgs ix σ) H1)/\∀i m xs σc H,W i m xs σc H->xs.length<Oo/\
  ((J.stop i H/\∀p,H p=none->Q (.ref p) (upd H p (.lst xs)))\/(J.go i H/\∀x H',J.yld i H x H'->g x σc H' λσ2 H2=>tc σ2 H2 λb H3=>if b=true then te σ2 H3 λy H4=>∃m',m'<m/\W (i+1) m' (xs++[y]) σ2 H4 else ∃m',m'<m/\W (i+1) m' xs σ2 H3))
theorem rV{te:TE}(c:CompOk X N tgs frs ix scope cl)(hc:X.calm=true)(hi:PI X tg iter wi)
  (hg:∀fp C s H,PG (aR X N scope cl fp C s H) tg g) (he:∀fp C s H,PE (aR X N scope cl fp C s H) elt te)
  (hcd:∀fp C s H,PT (aR X N scope cl fp C s H) cnd tc)
  (hs:∀x,Ov iter X.env x=pure x:=by intro _;rfl) :
  PE X (.ListComp elt [⟨tg,iter,[cnd],0⟩] scope pos) (jS wi g tc te tgs ix):=me (oc:=some cnd) (tb:=tbF tc te) c hc hi hg (λfp C s H=>.ts (hcd fp C s H) (he fp C s H)) hs
theorem rW{te:TE}(c:CompOk X N tgs frs ix scope cl)(hc:X.calm=true)(hi:QI X tg iter wi)
  (hg:∀fp C s H,QG (aR X N scope cl fp C s H) tg g) (he:∀fp C s H,QE (aR X N scope cl fp C s H) elt te) (hcd:∀fp C s H,QT (aR X N scope cl fp C s H) cnd tc)
  (hs:∀x,Ov iter X.env x=pure x:=by intro _;rfl) :
  QE X (.ListComp elt [⟨tg,iter,[cnd],0⟩] scope pos) (jS wi g tc te tgs ix):=⟨rV c hc hi.out (λfp C s H=>(hg fp C s H).out) (λfp C s H=>(he fp C s H).out) (λfp C s H=>(hcd fp C s H).out) hs⟩
end
section
variable{X:Cx}{e o b:Expr}{to tb te:TE}{t:TA}{pos apos cpos tpos:Pos}
theorem pE {K:Ec}(ho:QE X o to) (hbase:Ow o ("pop" : Str) X.env (eval o X.env)=eval o X.env:=by rfl) (hline:(apos.endLine == cpos.line)=true:=by rfl) (hK:X.K=K:=by rfl) :
  QE X (.Call (.Attribute o "pop" apos) [] [] cpos) (Bz K "list" BB to):=by subst hK;exact⟨yQ Gz PySem.F.slot_list_pop PySem.F.type_list_pop yR ho.out hbase hline⟩
theorem jT {K:Ec}(ho:QE X o to) (ha:QA X [e] t) (hbase:Ow o ("extend" : Str) X.env (eval o X.env)=eval o X.env:=by rfl) (hline:(apos.endLine == cpos.line)=true:=by rfl) (hn:bK e=true:=by rfl) (hK:X.K=K:=by rfl) :
  QE X (.Call (.Attribute o "extend" apos) [e] [] cpos) (tBM K "list" k9 to t):=by subst hK;exact⟨fw Gz Jj Jk oR ho.out ha.out hbase hline hn⟩
end
section
variable{X:Cx}{N tgs frs:List Str}{ix:List Nat}{scope:Scope}{cl:List (Str×Addr)}{xc:Str}
end
section
variable{X:Cx}{e o b:Expr}{to tb te:TE}{pos tpos:Pos}
def zo(K:Ec):R2:=λx y H Q=>∃a b xs,x=.ref a/\y=.ref b/\SqL K H a xs/\SqL K H b []/\Q (.bl (!decide (xs=[]))) H
theorem pF{K:Ec}(hu:X.A.units<cLine)(hK:X.K=K:=by rfl):QOp X (Ou .NotEq) (zo K):=by
 subst hK;refine⟨λpins s σ H x y v u Q I rx ry h=>?_⟩;obtain⟨a,b,xs,rfl,rfl,ha,hb,q⟩:=h;cases rx;cases ry;obtain⟨its,r1,p1,z1⟩:=I.list ha;obtain⟨its2,r2,p2,z2⟩:=I.list hb;have l1:its.toArray.size=xs.length:=by have:=r1.length;simp;lia
 have l2:its2.toArray.size=0:=by have:=r2.length;simp at this;simp[this]
 by_cases hx:xs=[]
 ·subst hx
  refine NS (e:=λ_=>true) p1.isList p2.isList (by rw[l1,l2];rfl) hu (λj h1 h2=>absurd h2 ⋯) X.prog X.w X.xe _ ?_;rw[l1];exact⟨.bl false,H,I,rfl,q⟩
 ·refine Mr p1.isList p2.isList (by rw[l1,l2];have:=Fn.mpr hx;simp;exact hx) hu X.prog X.w X.xe _ ?_
  rw[decide_eq_false hx]at q;exact⟨.bl true,H,I,rfl,q⟩
def zq(K:Ec):V->V->Hp->VK->Prop:=λo i H Q=>∃a xs k v,o=.ref a/\i=.int k/\SqL K H a xs/\0<=k/\xs[k.toNat]? = some v/\Q v H
theorem rX:Bf X (zq X.K):=by
 intro pins s σ H o i ov iv Q I ro ri h;obtain⟨a,xs,k,v,rfl,rfl,hq,h0,hv,q⟩:=h;cases ro;obtain⟨t,rfl⟩:=ri;obtain⟨its,r,pl,hz⟩:=I.list hq;obtain⟨w,ew,rw'⟩:=r.get hv;have hl:=bq hv;have hn:=eC;exact wpAny_getItem_list pl.isList h0 ⋯ (by simpa using ew) ⟨v,H,I,rw',q⟩
theorem mC{K:Ec}(ho:QE X o to)(hi:QE X b tb)(he:QE X e te)(ha:∀ov iv new,augStore b ov iv new=(do OF [new,ov,iv] (setItem ov iv new);release [new,ov,iv] [];pure .next):=by intros;rfl)(hK:X.K=K:=by rfl):
  QS X (.AugAssign (.Subscript o b tpos) .Add e pos) (rf to tb te (zq K) (ipI λi j=>i+j) k6):=by subst hK;exact⟨ot ho.out hi.out rX he.out ui iJ ha⟩
end
section
variable{K:Ec}{σ:St}{H:Hp}{Q:VK}{D:Ends}
theorem B6{te:TE}{tget:V->V->Hp->VK->Prop}{tip:TIp}{tset:vq}(h:to σ H λo H1=>ti σ H1 λi H2=>tget o i H2 λx H3=>te σ H3 λy H4=>tip x y H4 λz H5=>tset o i z H5 λH6=>D.nx σ H6):rf to ti te tget tip tset D σ H:=h
theorem Dl{r:V->List V->Hp->VK->Prop}{T:String}(h:to σ H λx H1=>tyV K T x H1/\r x [] H1 Q):Bz K T r to σ H Q:=h
theorem AQ {te:TE}{tgs:List Str}{ix:List Nat}(h:wi σ H λJ H1=>
 ∃W:Nat->Nat->List V->St->Hp->Prop,(∃m,W 0 m [] (dO tgs ix σ) H1)/\∀i m xs σc H,W i m xs σc H->xs.length<Oo/\
  ((J.stop i H/\∀p,H p=none->Q (.ref p) (upd H p (.lst xs)))\/(J.go i H/\∀x H',J.yld i H x H'->g x σc H' λσ2 H2=>tc σ2 H2 λb H3=>if b=true then te σ2 H3 λy H4=>∃m',m'<m/\W (i+1) m' (xs++[y]) σ2 H4 else ∃m',m'<m/\W (i+1) m' xs σ2 H3))):jS wi g tc te tgs ix σ H Q:=h
theorem pG{te:TE}{σ0:St}{R:List V->Hp->Prop}(Pv:Nat->List V->St->Hp->Prop)(hz:vs.length<Oo)(hl:∀i ys σ H,Pv i ys σ H->ys.length<=i)(ht:∀i ys σ H,Pv i ys σ H->SqL K H a vs)(h0:Pv 0 [] σ0 H)
  (hs:∀i ys σ H x,vs[i]? = some x->Pv i ys σ H->g x σ H λσ2 H2=>tc σ2 H2 λb H3=>if b=true then te σ2 H3 λy H4=>Nx vs.length i (Pv (i+1) (ys++[y]) σ2 H4)else Nx vs.length i (Pv (i+1) ys σ2 H3)) (hd:∀ys σ H,Pv vs.length ys σ H->R ys H) :
  ∃W:Nat->Nat->List V->St->Hp->Prop,(∃m,W 0 m [] σ0 H)/\∀i m xs σc H,W i m xs σc H->xs.length<Oo/\
  (((Itl K a).stop i H/\R xs H)\/((Itl K a).go i H/\∀x H',(Itl K a).yld i H x H'->g x σc H' λσ2 H2=>tc σ2 H2 λb H3=>if b=true then te σ2 H3 λy H4=>∃m',m'<m/\W (i+1) m' (xs++[y]) σ2 H4 else ∃m',m'<m/\W (i+1) m' xs σ2 H3)):=by
 refine⟨λi m xs σ H=>m=vs.length - i/\i<=vs.length/\Pv i xs σ H,⟨vs.length,by simp,Eo _,h0⟩,?_⟩;rintro i m xs σ H ⟨rfl,hi,p⟩;have q:=ht i xs σ H p;refine⟨E6 (E5 (hl i xs σ H p) hi) hz,?_⟩;by_cases hlt:i<vs.length
 ·refine .inr ⟨⟨vs,vs[i],q,by simp[hlt]⟩,λx H' y=>?_⟩
  obtain⟨e,y⟩:=y;subst e;exact hs i xs σ _ x (y vs q) p
 ·have e:i=vs.length:=by lia
  subst e;exact .inl ⟨⟨vs,q,Ed _⟩,hd xs σ H p⟩
end
noncomputable def cnt(os:List Nat)(b:Nat):List Nat:=(Ej b).map λf=>os.count f
theorem bF(os:List Nat)(b:Nat):(cnt os b).length=b:=by simp[cnt]
theorem d7{os:List Nat}{f:Nat}(h:f<b):(cnt os b)[f]? = some (os.count f):=by
 unfold cnt;rw[Eh,FH h];rfl
theorem rY{os:List Nat}{x:Nat}(h:x<b):(cnt os b).set x (os.count x+1)=cnt (os++[x]) b:=by
 apply List.ext_getElem?;intro i;rw[Hn];by_cases hi:i<b
 ·rw[d7 hi,d7 hi,IW,bF]
  by_cases e:x=i
  ·subst e;rw[if_pos rfl,if_pos h];simp
  ·rw[if_neg e]
   have:Nw i [x]=0:=Ks.mpr (by simp;exact λz=>e z.symm);rw[this,M3]
 ·rw[Hv (l:=cnt os b) (by rw[bF];lia),Hv (l:=cnt (os++[x]) b) (by rw[bF];lia)]
  split
  ·split
   ·rename_i h1 h2;rw[bF]at h2;lia
   ·rfl
  ·rfl
noncomputable def cu(rss:List (List Nat))(c:Nat):List Nat:=rss.map λr=>r.getD c 0
noncomputable def cX(rss:List (List Nat))(w b:Nat):List (List Nat):=(Ej (if rss=[]then 0 else w)).map λc=>cnt (cu rss c) b
theorem pH(rss:List (List Nat))(w b:Nat):(cX rss w b).length=if rss=[]then 0 else w:=by simp[cX]
theorem zr(m:Nat):Fz ((m:Int) - 1) (-1) (-1)=m:=by
 unfold Fz;rw[if_neg (by decide)];split
 ·rw[show(-(-1):Int)=1 by decide,Int.ediv_one];lia
 ·lia
theorem zt(h:m<=1000):GX ((m:Int) - 1) (-1) (-1)=true:=by
 unfold GX;rw[zr];simp only[GQ,Fu,Bool.or_eq_true,decide_eq_true_eq,beq_iff_eq,show ¬((-1:Int) > 0)by decide,if_false];refine⟨?_,?_⟩<;>first|lia|(refine⟨?_,?_⟩<;>first|lia|(split<;>lia))|(split<;>lia)|trace_state
def Itd(m:Nat):It:=⟨λi _=>i<m,λi H x H'=>H'=H/\x=.int ((m - 1 - i:Nat):Int),λi _=>m<=i⟩
theorem ly{w:World}{K:Ec}(it:Addr)(m:Nat):Turn P w K tg (Itd m) [it] it (λi h=>IsRangeIter h it (((m:Int) - 1)+(i:Nat)*(-1)) ((m:Int) - (i:Nat)) (-1)) where
 mem:=by simp
 obj:=λi h st b hb=>by
  have e:b=it:=by simpa using hb
  subst e;exact⟨_,st,λv z=>by
   have z':K2 _=Mh v:=z;cases z'⟩
 keep:=λi h h' st k=>k it (by simp) _ st
 item:=by
  intro X hP hw hK hc i pins s σ H E I hf st hg;subst hP hw hK;obtain⟨f0,f1,f2,f3,f4,f5⟩:=hf it (by simp);have hi:i<m:=hg;have W:=K3 (prog:=X.prog) (w:=X.w) (I.ok.hd hc) it ((m:Int) - 1) (-1) m;refine W.item i s _ _ hg st λv h' tk hv st' kk=>?_
  obtain⟨t,rfl⟩:=hv;have I1:Inv X pins σ H { s with heap:=h',toks:=tk }:=I.turned (λb o hb e=>kk b o (by simpa using hb) e) f0 f1 f3 f4 f5;refine⟨_,rfl,nk (s:={ s with heap:=h',toks:=tk }) (n:="range_iterator") st' rfl rfl (by decide) ⟨.int ((m - 1 - i:Nat):Int),H,I1,⟨t,?_⟩,⟨rfl,rfl⟩,st',λb hb=>(hf b hb).1⟩⟩;congr 1;lia
 done:=by
  intro X hP hw hK hc i pins s σ H E I hf st hg;subst hP hw hK;obtain⟨f0,f1,f2,f3,f4,f5⟩:=hf it (by simp);exact wpAny_pyNext_range_end (I.ok.hd hc) st (by have:m<=i:=hg;lia) λh' eb=>⟨rfl,I.turned (t':=s.toks) (λb o hb e=>eb b o hb e) f0 f1 f3 f4 f5⟩
 self:=λ_ _ _ _ _ st h=>wpAny_pyIter_rangeiter st h
section
variable{X:Cx}{tg a b c:Expr}{t:TA}{p pos:Pos}
def zu(t:TA):TI:=λσ H R=>t σ H λvs H1=>∃m:Nat,vs=[.int ((m:Int) - 1),.int (-1),.int (-1)]/\m<=1000/\R (Itd m) H1
theorem jU (hg:Gl X "range") (hm:X.mg "range" = none) (ha:QA X [a,b,c] t) (hn:bK a=true:=by rfl) (hn2:bK b=true:=by rfl) (hn3:bK c=true:=by rfl):QI X tg (.Call (.Name "range" p) [a,b,c] [] pos) (zu t):=by
 refine⟨λpins s σ H R I h=>?_⟩;have e3:Ot [c] X.env=[(false,eval c X.env)]:=aL hn3;have e2:Ot [b,c] X.env=[(false,eval b X.env),(false,eval c X.env)]:=by rw[aL hn2,e3]
 refine Call_ (dr I hg hm boot_range (Fd (thn (ha.out pos pins s σ H _ I h) λus s1 ⟨vs,H1,I1,r1,q1⟩=>?_) (aL hn) (by rw[e2];rfl)));obtain⟨m,e,hm1,q⟩:=q1;subst e;cases r1 with
 | cons r rr=>
  cases rr with
  | cons r' rr=>
   cases rr with
   | cons r'' rr=>
    cases rr;obtain⟨t1,rfl⟩:=r;obtain⟨t2,rfl⟩:=r';obtain⟨t3,rfl⟩:=r'';refine call_range_3 (by decide) ?_ (.inl (G8 (by decide +kernel)));refine wpAny_pyIter_range (JC ..) (zt hm1) ?_;have I2:Inv X pins σ H1 { s1 with heap:=s1.heap.push { cls:=.type "range",data:=.fields #[.int ((m:Int) - 1) t1,.int (-1) t2,.int (-1) t3] },toks:=s1.toks }:=I1.kept λb o e=>El _ e
    refine⟨_,[(s1.heap.push { cls:=.type "range",data:=.fields #[.int ((m:Int) - 1) t1,.int (-1) t2,.int (-1) t3] }).objs.size],_,_,H1,rfl,I2.kept (t':=s1.toks) λb o e=>El _ e,ly _ m,?_,λb hb=>?_,q⟩
    ·show IsRangeIter _ _ (((m:Int) - 1)+((0:Nat):Int)*(-1)) ((m:Int) - ((0:Nat):Int)) (-1)
     have g1:((m:Int) - 1)+((0:Nat):Int)*(-1)=(m:Int) - 1:=by simp
     have g2:(m:Int) - ((0:Nat):Int)=Fz ((m:Int) - 1) (-1) (-1):=by rw[zr];simp
     rw[g1,g2];exact EH _ rfl
    ·have e:b=(s1.heap.push { cls:=.type "range",data:=.fields #[.int ((m:Int) - 1) t1,.int (-1) t2,.int (-1) t3] }).objs.size:=by simpa using hb
     subst e;exact I2.fpOk (Ed _) (I2.hok.fresh (Ed _))
end
theorem B7{H:Hp}{R:It->Hp->Prop}(h:t σ H λvs H1=>∃m:Nat,vs=[.int ((m:Int) - 1),.int (-1),.int (-1)]/\m<=1000/\R (Itd m) H1):zu t σ H R:=h
section
variable{prog:Program}{w:World}{A:Around}{E:Value->Shared->Prop}{s:Shared}
end
section
variable{X:Cx}{a b:Expr}{t:TA}{p pos tpos:Pos}{ts:List Expr}{k:Nat}
end
section
variable{X:Cx}{N tgs frs:List Str}{ix:List Nat}{scope:Scope}{cl:List (Str×Addr)}
theorem wx{te:TE}(hN:X.N.Nodup)(hy:X.N[iy]? = some y)(hx:Loc X.env.scope y)(c:CompOk X N tgs frs ix scope cl)(hc:X.calm=true)(hi:PI X tg iter wi)
  (hg:∀fp C s H,PG (aR X N scope cl fp C s H) tg g) (he:∀fp C s H,PE (aR X N scope cl fp C s H) elt te)
  (hcd:∀fp C s H,PT (aR X N scope cl fp C s H) cnd tc)
  (hs:∀x,Ov iter X.env x=pure x:=by intro _;rfl)
  (hsw:OL (.ListComp elt [⟨tg,iter,[cnd],0⟩] scope pos) (some (.Name y py)) spos.line X.env=pure true:=by rfl)
  (hf:X.fn y=true\/X.env.scope.names.lookup y=some .local:=by first|exact .inl rfl|exact .inr rfl|assumption) :
  PS X (.Assign [.Name y py] (.ListComp elt [⟨tg,iter,[cnd],0⟩] scope pos) spos) (nj (jS wi g tc te tgs ix) (dm iy)):=oY (oc:=some cnd) (tb:=tbF tc te) hN hy hx c hc hi hg (λfp C s H=>.ts (hcd fp C s H) (he fp C s H)) hs hsw hf
theorem wz{te:TE}(hN:X.N.Nodup)(hy:X.N[i]? = some y)(hx:Loc X.env.scope y)(c:CompOk X N tgs frs ix scope cl)(hc:X.calm=true)(hi:QI X tg iter wi)
  (hg:∀fp C s H,QG (aR X N scope cl fp C s H) tg g) (he:∀fp C s H,QE (aR X N scope cl fp C s H) elt te) (hcd:∀fp C s H,QT (aR X N scope cl fp C s H) cnd tc)
  (hs:∀x,Ov iter X.env x=pure x:=by intro _;rfl)
  (hsw:OL (.ListComp elt [⟨tg,iter,[cnd],0⟩] scope pos) (some (.Name y py)) spos.line X.env=pure true:=by rfl)
  (hf:X.fn y=true\/X.env.scope.names.lookup y=some .local:=by first|exact .inl rfl|exact .inr rfl|assumption) :
  QS X (.Assign [.Name y py] (.ListComp elt [⟨tg,iter,[cnd],0⟩] scope pos) spos) (nj (jS wi g tc te tgs ix) (dm i)):=
 ⟨wx hN hy hx c hc hi.out (λfp C s H=>(hg fp C s H).out) (λfp C s H=>(he fp C s H).out) (λfp C s H=>(hcd fp C s H).out) hs hsw hf⟩
end
section
variable{X:Cx}{N tgs frs:List Str}{ix:List Nat}{scope:Scope}{cl:List (Str×Addr)}{xc:Str}
end
section
variable{X:Cx}{e o:Expr}{to te:TE}{t:TA}{pos apos cpos:Pos}
end
section
variable{K:Ec}{σ:St}{H:Hp}{Q:VK}{g:TG}{tc:TT}{te:TE}
theorem pI{J:It}{σ0:St}{R:List V->Hp->Prop}(Pv:Nat->List V->St->Hp->Prop)(hz:n<Oo)(hl:∀i ys σ H,Pv i ys σ H->ys.length<=i)(h0:Pv 0 [] σ0 H)(hgo:∀i ys σ H,i<n->Pv i ys σ H->J.go i H)(hst:∀ys σ H,Pv n ys σ H->J.stop n H)
  (hs:∀i x ys σ H H',i<n->Pv i ys σ H->J.yld i H x H'->g x σ H' λσ2 H2=>tc σ2 H2 λb H3=>if b=true then te σ2 H3 λy H4=>Nx n i (Pv (i+1) (ys++[y]) σ2 H4)else Nx n i (Pv (i+1) ys σ2 H3)) (hd:∀ys σ H,Pv n ys σ H->R ys H) :
  ∃W:Nat->Nat->List V->St->Hp->Prop,(∃m,W 0 m [] σ0 H)/\∀i m xs σc H,W i m xs σc H->xs.length<Oo/\
  ((J.stop i H/\R xs H)\/(J.go i H/\∀x H',J.yld i H x H'->g x σc H' λσ2 H2=>tc σ2 H2 λb H3=>if b=true then te σ2 H3 λy H4=>∃m',m'<m/\W (i+1) m' (xs++[y]) σ2 H4 else ∃m',m'<m/\W (i+1) m' xs σ2 H3)):=by
 refine⟨λi m xs σ H=>m=n - i/\i<=n/\Pv i xs σ H,⟨n,by simp,Eo _,h0⟩,?_⟩;rintro i m xs σ H ⟨rfl,hi,p⟩;refine⟨E6 (E5 (hl i xs σ H p) hi) hz,?_⟩;by_cases hlt:i<n
 ·exact .inr ⟨hgo i xs σ H hlt p,λx H' y=>hs i x xs σ H H' hlt p y⟩
 ·have e:i=n:=by lia
  subst e;exact .inl ⟨hst xs σ H p,hd xs σ H p⟩
end
section
variable{X:Cx}
end
noncomputable def jV(os:List Nat):List Nat:=os.filter λm=>decide (0<m)
noncomputable def eO(os:List Nat):Bool:=decide (1<(jV os).length)
noncomputable def bV(os:List Nat)(f:Nat):Nat:=os.countP λx=>decide (x<f)
noncomputable def rZ(cs:List Nat):List Nat:=(Ej cs.length).map λf=>(cs.take f).sum
noncomputable def dR(os:List Nat)(k:Nat):Nat:=bV os (os.getD k 0)+(os.take k).count (os.getD k 0)
theorem cA(os:List Nat)(f:Nat):bV os (f+1)=bV os f+os.count f:=by
 unfold bV
 induction os with
 | nil=>rfl
 | cons x xs ih=>
  rw[Li,Li,List.count_cons,ih];by_cases h:x<f
  ·have h1:x≠f:=by lia
   have h2:x<f+1:=by lia
   simp[h,h1,h2];lia
  ·by_cases h1:x=f
   ·subst h1;simp;lia
   ·have h2:¬x<f+1:=by lia
    simp[h,h1,h2]
theorem cY{os:List Nat}{f g:Nat}(h:f<=g):bV os f<=bV os g:=by
 induction g with
 | zero=>(have:f=0:=⋯);subst this;exact Ed _
 | succ g ih=>
  by_cases e:f=g+1
  ·subst e;exact Ed _
  ·have:=ih ⋯
   rw[cA];lia
theorem fL(os:List Nat)(f:Nat):bV os f<=os.length:=List.countP_le_length
theorem bP(os:List Nat)(b f:Nat)(h:f<=b):((cnt os b).take f).sum=bV os f:=by
 induction f with
 | zero=>simp[bV]
 | succ f ih=>
  rw[Em,d7 ⋯,F1,ih ⋯,cA];simp
theorem fM(cs:List Nat):(rZ cs).length=cs.length:=by simp[rZ]
theorem fN{f:Nat}(h:f<cs.length):(rZ cs)[f]? = some (cs.take f).sum:=by
 unfold rZ;rw[Eh,FH h];rfl
theorem pJ{f:Nat}(h:f<cs.length):(rZ cs).take (f+1)=(rZ cs).take f++[(cs.take f).sum]:=by
 rw[Em,fN h];rfl
theorem eP(os:List Nat)(f:Nat)(h:i<=j):(os.take i).count f<=(os.take j).count f:=by
 have:os.take i=(os.take j).take i:=by rw[List.take_take,G5 h]
 rw[this];exact Nk _ (KR i _)
theorem cB{os:List Nat}(h:k<os.length):(os.take (k+1)).count (os.getD k 0)=(os.take k).count (os.getD k 0)+1:=by
 rw[Em,D9 h,IW];simp[Eb,D9 h]
theorem eQ{os:List Nat}(h:k<os.length):dR os k<bV os (os.getD k 0+1):=by
 unfold dR;rw[cA];have h1:=cB h;have h2:=eP os (os.getD k 0) (i:=k+1) (j:=os.length) ⋯;rw[Ee (Ed _)]at h2;lia
theorem lz{os:List Nat}(h:k<os.length):dR os k<os.length:=EN (eQ h) (fL _ _)
theorem cZ{os:List Nat}(hi:i<os.length)(hj:j<os.length)(h:os.getD i 0<os.getD j 0\/os.getD i 0=os.getD j 0/\i<j):dR os i<dR os j:=by
 rcases h with h|⟨h,hij⟩
 ·have h1:=eQ hi
  have h2:=cY (os:=os) (f:=os.getD i 0+1) (g:=os.getD j 0) h;unfold dR at *;lia
 ·unfold dR
  rw[<-h];have h1:=cB hi;have h2:=eP os (os.getD i 0) (i:=i+1) (j:=j) hij;lia
theorem mD{os:List Nat}(hi:i<os.length)(hj:j<os.length)(h:dR os i=dR os j):i=j:=by
 rcases FG (os.getD i 0) (os.getD j 0)with g|g|g
 ·have:=cZ hi hj (.inl g);lia
 ·rcases FG i j with q|q|q
  ·have:=cZ hi hj (.inr ⟨g,q⟩);lia
  ·exact q
  ·have:=cZ hj hi (.inr ⟨g.symm,q⟩);lia
 ·have:=cZ hj hi (.inl g);lia
theorem jW{xs ys:List Nat}(h:xs.Nodup)(hs:∀x∈xs,x∈ys)(hl:ys.length<=xs.length):xs.Perm ys:=by
 induction xs generalizing ys with
 | nil=>cases ys with
  | nil=>exact GN _
  | cons y r=>simp at hl
 | cons x xs ih=>
  have hx:x∈ys:=hs x (EL ..);have hp:=List.perm_cons_erase hx;refine LV (Ob x (ih (Gi.mp h).2 (λz hz=>?_) ?_)) hp.symm
  ·have:z≠x:=λe=>(Gi.mp h).1 (e▸hz)
   exact(List.mem_erase_of_ne this).mpr (hs z (Eu _ hz))
  ·rw[List.length_erase_of_mem hx];simp at hl;lia
structure ByF (os ob:List Nat):Prop where
 len:ob.length=os.length
 at_:∀k,k<os.length->ob[dR os k]? = some k
theorem ByF.get{os:List Nat}(h:ByF os ob){a x:Nat}(e:ob[a]? = some x):x<os.length/\a=dR os x:=by
 -- the spots are each place once
 have hsur:∀a,a<os.length->∃k,k<os.length/\dR os k=a:=by
  intro a ha;have hnd:((Ej os.length).map (dR os)).Nodup:=by
   rw[IJ,EW];intro i j hi hj hij e;simp only[Ea,E9]at hi hj;rw[Hu,Hu,Kt,Kt]at e;have:=mD hi hj e;lia
  have hsub:∀x∈(Ej os.length).map (dR os),x∈Ej os.length:=λx hx=>by
   obtain⟨k,hk,rfl⟩:=EC.mp hx;exact ER.mpr (lz (ER.mp hk))
  have hp:((Ej os.length).map (dR os)).Perm (Ej os.length):=jW hnd hsub (by simp);obtain⟨k,hk,e⟩:=EC.mp (hp.mem_iff.mpr (ER.mpr ha));exact⟨k,ER.mp hk,e⟩
 have ha:a<os.length:=by rw[<-h.len];exact bq e
 obtain⟨k,hk,rfl⟩:=hsur a ha;rw[h.at_ k hk]at e;cases e;exact⟨hk,rfl⟩
theorem ByF.ord{os:List Nat}(h:ByF os ob):Ord ob os.length:=by
 refine⟨h.len,λx hx=>?_,λi j r a b=>?_,λx hx=>⟨dR os x,lz hx,h.at_ x hx⟩⟩
 ·obtain⟨a,e⟩:=F0 hx
  exact(h.get e).1
 ·rw[(h.get a).2,(h.get b).2]
theorem ByF.rise{os:List Nat}(h:ByF os ob):ob.Pairwise λi j=>os.getD i 0<os.getD j 0\/os.getD i 0=os.getD j 0/\i<j:=by
 rw[EW];intro a b ha hb hab;obtain⟨h1,e1⟩:=h.get (D9 ha);obtain⟨h2,e2⟩:=h.get (D9 hb);generalize ob[a]=i at *;generalize ob[b]=j at *;rcases FG (os.getD i 0) (os.getD j 0)with g|g|g
 ·exact .inl g
 ·rcases FG i j with q|q|q
  ·exact .inr ⟨g,q⟩
  ·subst q;lia
  ·have:=cZ h2 h1 (.inr ⟨g.symm,q⟩);lia
 ·have:=cZ h2 h1 (.inl g);lia
theorem Ord.perm{os:List Nat}(h:Ord os n):os.Perm (Ej n):=by
 refine jW ?_ (λx hx=>ER.mpr (h.lt x hx)) (by rw[E9,h.len];exact Ed _);rw[IJ,EW];intro i j hi hj hij e;have:=h.inj i j os[i] (D9 hi) (by rw[e];exact D9 hj);lia
theorem dS(xs:List Nat):(Ej xs.length).map (λp=>xs.getD p 0)=xs:=by
 apply GS (by simp);intro i h1 h2;simp[Eb,D9 h2]
theorem iY{os xs:List Nat}(h:os.Perm (Ej xs.length)):(os.map λp=>xs.getD p 0).Perm xs:=by
 have:=h.map (λp=>xs.getD p 0);rw[dS]at this;exact this
theorem r9{xs ys:List Nat}(h:xs.Perm ys):cnt xs b=cnt ys b:=by
 unfold cnt;apply Im;intro f _;exact h.count_eq f
theorem wA{os:List Nat}(h:∀o∈os,o<b):(cnt os b).sum=os.length:=by
 have h1:=bP os b b (Ed _);rw[Ee (by rw[bF];exact Ed _)]at h1;rw[h1];unfold bV;rw[List.countP_eq_length];intro o ho;simpa using h o ho
theorem jX(ns:List Nat):(ns.map λx:Nat=>(x:Int)).sum=((ns.sum:Nat):Int):=by
 induction ns with
 | nil=>rfl
 | cons x xs ih=>simp[ih]
end L2
open L2.Nx renaming mk→Om
open L2.QW renaming qt→Ol
open L2.Same renaming refl→Oj
namespace HT
open PySem PyProof.Rows
noncomputable def dq:List Int->List Int->Bool
 | [],[]=>true
 | [],_::_=>true
 | _::_,[]=>false
 | x::xs,y::ys=>if x=y then dq xs ys else decide (x<=y)
theorem ie(x y:Int)(xs ys:List Int):dq (x::xs) (y::ys)=if x=y then dq xs ys else decide (x<=y):=rfl
theorem iZ:dq [] []=true:=rfl
theorem gW(y:Int)(ys:List Int):dq [] (y::ys)=true:=rfl
theorem gX(x:Int)(xs:List Int):dq (x::xs) []=false:=rfl
theorem sd(A:Around)(s:Shared)(a:Int)(t:Tok)(c:Int)(u:Tok)(prog:Program)(w:World)(E:Value->Shared->Prop)(Q:Value->Shared->Prop)(h:Q (.bool (decide (a<=c))) s):
  wpAny (model prog w) A (richCompare .LtE (.int a t) (.int c u)) Q E s:=
 (NL h:wpAny (model prog w) A (Ou .LtE (.int a t) (.int c u)) Q E s)
section
open PySem.SeqAt
open PySem.AutoSeq1 (wpAny_loadPart')
open PySem.MeetsSeq PySem.MeetsSeq2 PySem.MeetsSeq3
theorem i0(l b:Addr)(items items2:Array Value)(n n2:Nat)(dd dd2:Option Addr)(sl sl2:Array (Option Value))(ns ms:List Int)(hi:Ox items.toList ns)(hj:Ox items2.toList ms):
  Meets (Builtin.«tuple.__le__» ⟨[.ref l,.ref b],[]⟩)
   (λ_ R s=>s.heap.get? l=some { cls:=.type "tuple",dict:=dd,data:=.seq items n,slots:=sl }/\s.heap.get? b=some { cls:=.type "tuple",dict:=dd2,data:=.seq items2 n2,slots:=sl2 }/\
    R (.ok (.ret (.bool (dq ns ms)))) s):=
 .of_wp λprog w A R s h=>by
  obtain⟨hp,g,d,tk,os⟩:=s;obtain⟨hl,hb,h⟩:=h;have f2:=G7;have z1:items.size=ns.length:=by rw[<-hi.length];simp
  have z2:items2.size=ms.length:=by rw[<-hj.length];simp
  wp_walk using OD hl,OD hb,wpAny_forIn_list _ (λrest b s'=>b.1=none/\s'=⟨hp,g,d,tk,os⟩/\∃(vs ws:List Value) (ns' ms':List Int),rest=vs.zip ws/\
   Ox vs ns'/\Ox ws ms'/\ns'.length+items2.size=ms'.length+items.size/\R (.ok (.ret (.bool (dq ns' ms')))) ⟨hp,g,d,tk,os⟩) _
  case turn=>
   rintro⟨y,x⟩ rest b s' ⟨hb',rfl,vs,ws,ns',ms',hz,hvi,hwi,hlen,hR⟩;cases hvi with
   | nil=>rw[IV]at hz;cases hz
   | cons a t hvi'=>
    cases hwi with
    | nil=>rw[Iw]at hz;cases hz
    | cons c u hwi'=>
     rw[FL]at hz;injection hz with hyx hrest
     injection hyx with hy hx
     subst hy hx;rw[ie]at hR;simp only[EB]at hlen;obtain⟨e,he,hiff⟩:=md A.in1 ⟨hp,g,d,tk,os⟩ a t c u;refine On (he prog w _ _ ?_);cases e with
     | true=>
      rw[if_pos (hiff.mp rfl)]at hR
      wp_walk
      exact⟨rfl,rfl,_,_,_,_,hrest,hvi',hwi',by lia,hR⟩
     | false=>
      rw[if_neg (λq=>absurd (hiff.mpr q) ED)]at hR;have hri:=sd A.in1 ⟨hp,g,d,tk,os⟩ a t c u prog w
      wp_walk using hri
      exact⟨_,rfl,by simpa using hR⟩
  case fin=>
   rintro⟨b1,b2⟩ s' ⟨hb',rfl,vs,ws,ns',ms',hz,hvi,hwi,hlen,hR⟩;simp only at hb';subst hb';have hv:dq ns' ms'=decide (items.size<=items2.size):=by
    cases hvi with
    | nil=>
     cases hwi with
     | nil=>
      simp only[Fe]at hlen;rw[iZ];exact(decide_eq_true ⋯).symm
     | cons c u hw=>
      simp only[Fe,EB]at hlen;rw[gW];exact(decide_eq_true ⋯).symm
    | cons a t hv=>
     cases hwi with
     | nil=>
      simp only[Fe,EB]at hlen;rw[gX];exact(decide_eq_false ⋯).symm
     | cons c u hw=>
      rw[FL]at hz;cases hz
   rw[hv]at hR
   wp_walk
   exact⟨_,rfl,by simpa [Hx]using hR⟩
  case h=>
   exact⟨rfl,rfl,items.toList,items2.toList,ns,ms,rfl,hi,hj,by lia,h⟩
end
section
variable{prog:Program}{w:World}{A:Around}{E:Value->Shared->Prop}{s:Shared}
theorem nM{b:Addr}{items items2:Array Value}{ns:List Int}{Q:Value->Shared->Prop}(hl:IsTup s.heap l items)(hb:IsTup s.heap b items2)(hi:Ox items.toList ns)(hj:Ox items2.toList ms)
  (hu:A.units<cLine) (h:Q (.bool (dq ns ms)) s):wpAny (model prog w) A (Ou .LtE (.ref l) (.ref b)) Q E s:=by
 obtain⟨⟨cls,dd,data,sl⟩,ho,hc,n,hd⟩:=id hl;obtain⟨⟨cls2,dd2,data2,sl2⟩,ho2,hc2,n2,hd2⟩:=id hb;simp only at hc hd hc2 hd2;subst hc hd hc2 hd2;exact richCompare_meets_room (op:=.LtE) ⟨_,ho,rfl⟩ ⟨_,ho2,rfl⟩ PySem.F.slot_tuple_le PySem.F.entry_tuple_le (PySem.F.args_tuple_le_2 _ _) (i0 l b items items2 n n2 dd dd2 sl sl2 ns ms hi hj)
  ⟨ho,ho2,show Hy (dq ns ms)≠Value.notImplemented/\Q (.bool (dq ns ms)) s from⟨(λx=>nomatch x),h⟩⟩ hu
end
theorem jY(ns ms:List Int):dq ns ms=!bG ms ns:=by
 induction ns generalizing ms with
 | nil=>cases ms<;>rfl
 | cons x xs ih=>
  cases ms with
  | nil=>rfl
  | cons y ys=>
   rw[ie,aX];by_cases h:x=y
   ·subst h;rw[if_pos rfl,if_pos rfl,ih]
   ·rw[if_neg h,if_neg (E2 h)]
    by_cases g:x<=y
    ·rw[decide_eq_true g,decide_eq_false ⋯];rfl
    ·rw[decide_eq_false g,decide_eq_true ⋯];rfl
end HT
namespace L2
open PySem PySem.Spec PyProof.Rows
section
variable{X:Cx}{e e2 o:Expr}{to te:TE}{t:TA}{pos apos cpos:Pos}
def B8(K:Ec):R2:=λx y H Q=>∃a b ns ms,x=.ref a/\y=.ref b/\SqT K H a (ns.map Og)/\SqT K H b (ms.map Og)/\Q (.bl (HT.dq ns ms)) H
theorem zw(hu:X.A.units<cLine):OpR X (Ou .LtE) (B8 X.K):=by
 intro pins s σ H x y v u Q I rx ry h;obtain⟨a,b,ns,ms,rfl,rfl,ha,hb,q⟩:=h;cases rx;cases ry;obtain⟨its,r1,p1,_⟩:=I.tuple ha;obtain⟨its2,r2,p2,_⟩:=I.tuple hb;have i1:Ox its.toArray.toList ns:=bY r1;have i2:Ox its2.toArray.toList ms:=bY r2;exact HT.nM p1 p2 i1 i2 hu ⟨.bl (HT.dq ns ms),H,I,rfl,q⟩
theorem zx{K:Ec}(hu:X.A.units<cLine)(hK:X.K=K:=by rfl):QOp X (Ou .LtE) (B8 K):=by subst hK;exact⟨zw hu⟩
theorem B9{K:Ec}(hK:X.K=K:=by rfl):QIx X (rIx K):=by subst hK;exact⟨yO⟩
end
theorem gn{P:PyData->Bool}{PA:List PyData->Bool}(h0:PA []=true)(h1:∀x xs,PA (x::xs)=(P x && PA xs)):∀{ds:List PyData},(∀d∈ds,P d=true)->PA ds=true
 | [],_=>h0
 | d::ds,h=>by rw[h1,h d (EL ..),gn h0 h1 λx hx=>h x (Eu _ hx)];rfl
theorem cC{n:Nat}:∀{ds:List PyData},(∀d∈ds,d.depth<=n)->LX ds<=n
 | [],_=>Eo _
 | d::ds,h=>by
  show max d.depth (LX ds)<=n
  have h1:=h d (EL ..);have h2:=cC (ds:=ds) λx hx=>h x (Eu _ hx)
  lia
theorem dc:∀{ds:List PyData},(∀d∈ds,d.hasDict=false)->KU ds=false
 | [],_=>rfl
 | d::ds,h=>by
  show(d.hasDict || KU ds)=false
  rw[h d (EL ..),dc λx hx=>h x (Eu _ hx)];rfl
section
variable{X:Cx}{pins:List (Addr×Obj)}{σ:St}{H:Hp}{s:Shared}
theorem cD{R:V->PyData->Prop}{h:Heap}(hR:∀x v d,R x d->RelV x v->∃as,Reads h v d as):∀{xs:List V}{its:List Value}{ds:List PyData},Vals xs its->xs.length=ds.length->(∀(i:Nat) u e,xs[i]? = some u->ds[i]? = some e->R u e)->∃as,ReadsAll h its ds as
 | _,_,[],.nil,_,_=>⟨[],.nil⟩
 | _,_,d::ds,.cons r rr,hl,hi=>by
  obtain⟨as,h1⟩:=hR _ _ d (hi 0 _ d rfl rfl) r;obtain⟨bs,h2⟩:=cD hR rr (by simpa using hl) λi u e e1 e2=>hi (i+1) u e e1 e2
  exact⟨as++bs,.cons h1 h2⟩
 | _,_,_::_,.nil,hl,_=>by simp at hl
 | _,_,[],.cons _ _,hl,_=>by simp at hl
end
section
variable{K:Ec}{σ:St}{H:Hp}{Q:VK}
theorem uF{b:Addr}{ns:List Int}(h1:SqT K H a (ns.map Og))(h2:SqT K H b (ms.map Og))(h:Q (.bl (HT.dq ns ms)) H):B8 K (.ref a) (.ref b) H Q:=⟨a,b,ns,ms,rfl,rfl,h1,h2,h⟩
theorem zy{i:Int}(s:H p=some (.lst xs)\/H p=some (.tup xs))(a:atI xs i=some v)(h:Q v H):rIx K (.ref p) (.int i) H Q:=
 s.elim (λs=>.inl (bz (Oe s) a h)) (λs=>.inr (.inl (o9 (Of s) a h)))
end
noncomputable def cR(a:List Nat):List Int:=a.map λx:Nat=>(x:Int)
noncomputable def lxt(a b:List Nat):Bool:=HT.bG (cR a) (cR b)
theorem de(x y:Nat)(a b:List Nat):lxt (x::a) (y::b)=if x=y then lxt a b else decide (x<y):=by
 unfold lxt cR;rw[E1,E1,HT.aX];by_cases h:x=y
 ·rw[if_pos h,if_pos (by rw[h])]
 ·rw[if_neg h,if_neg ⋯]
  exact decide_eq_decide.mpr ⋯
theorem ig(a:List Nat):lxt a a=false:=by
 induction a with
 | nil=>rfl
 | cons x a ih=>rw[de,if_pos rfl,ih]
theorem jZ{a b c:List Nat}(h1:lxt a b=true)(h2:lxt b c=true):lxt a c=true:=by
 induction a generalizing b c with
 | nil=>
  cases b with
  | nil=>cases h1
  | cons y b=>cases c with
   | nil=>cases h2
   | cons z c=>rfl
 | cons x a ih=>
  cases b with
  | nil=>cases h1
  | cons y b=>
   cases c with
   | nil=>cases h2
   | cons z c=>
    rw[de]at h1 h2 ⊢;by_cases e1:x=y
    ·subst e1
     rw[if_pos rfl]at h1;by_cases e2:x=z
     ·rw[if_pos e2]at h2 ⊢;exact ih h1 h2
     ·rw[if_neg e2]at h2 ⊢;exact h2
    ·rw[if_neg e1]at h1
     have h1:=of_decide_eq_true h1;by_cases e2:y=z
     ·subst e2;rw[if_neg e1];exact decide_eq_true h1
     ·rw[if_neg e2]at h2
      have h2:=of_decide_eq_true h2;rw[if_neg ⋯];exact decide_eq_true ⋯
theorem pK(a b:List Nat):lxt a b=true\/a=b\/lxt b a=true:=by
 induction a generalizing b with
 | nil=>cases b with
  | nil=>exact .inr (.inl rfl)
  | cons y b=>exact .inl rfl
 | cons x a ih=>
  cases b with
  | nil=>exact .inr (.inr rfl)
  | cons y b=>
   rw[de,de];by_cases e:x=y
   ·subst e
    rw[if_pos rfl,if_pos rfl];rcases ih b with h|h|h
    ·exact .inl h
    ·exact .inr (.inl (by rw[h]))
    ·exact .inr (.inr h)
   ·rw[if_neg e,if_neg (E2 e)]
    rcases Ku e with h|h
    ·exact .inl (decide_eq_true h)
    ·exact .inr (.inr (decide_eq_true h))
theorem pL{a b:List Nat}(h1:lxt a b=true)(h2:lxt b a=true):False:=by
 have:=jZ h1 h2;rw[ig]at this;cases this
def Rk(rss:List (List Nat))(c i j:Nat):Prop:=lxt ((rss.getD i []).drop c) ((rss.getD j []).drop c)=true\/((rss.getD i []).drop c=(rss.getD j []).drop c/\i<j)
theorem ij{α:Type}{R:α->α->Prop}(ha:∀a b,R a b->R b a->False):∀{xs ys:List α},xs.Perm ys->xs.Pairwise R->ys.Pairwise R->xs=ys
 | [],ys,hp,_,_=>by have:=hp.length_eq;exact(FA.mp this.symm).symm
 | x::xs,[],hp,_,_=>by have:=hp.length_eq;simp at this
 | x::xs,y::ys,hp,h1,h2=>by
  have e:x=y:=by
   rcases EA.mp (hp.mem_iff.mp (EL ..))with h|h
   ·exact h
   ·rcases EA.mp (hp.mem_iff.mpr (EL ..))with g|g
    ·exact g.symm
    ·exact(ha x y ((G9.mp h1).1 y g) ((G9.mp h2).1 x h)).elim
  subst e;rw[ij ha (List.perm_cons x |>.mp hp) (G9.mp h1).2 (G9.mp h2).2]
theorem mE{w b i c:Nat}(hi:i<rss.length)(hl:∀r∈rss,r.length=w)(hc:c<w):(rss.getD i []).drop c=(cu rss c).getD i 0::(rss.getD i []).drop (c+1):=by
 have e:rss.getD i []=rss[i]:=by rw[Eb,D9 hi];rfl
 have hr:=hl rss[i] (Es hi);have e2:(cu rss c).getD i 0=rss[i].getD c 0:=by
  unfold cu;rw[Eb,Eh,D9 hi];rfl
 rw[e,e2,IZ (by lia:c<rss[i].length)];congr 1;rw[Eb,D9 ⋯];rfl
theorem Rk.col{w:Nat}(hi:i<rss.length)(hj:j<rss.length)(hl:∀r∈rss,r.length=w)(hc:c<w)
  (h:(cu rss c).getD i 0<(cu rss c).getD j 0\/(cu rss c).getD i 0=(cu rss c).getD j 0/\Rk rss (c+1) i j):Rk rss c i j:=by
 unfold Rk;rw[mE (b:=0) hi hl hc,mE (b:=0) hj hl hc,de];rcases h with h|⟨e,h|⟨h1,h2⟩⟩
 ·left;rw[if_neg ⋯];exact decide_eq_true h
 ·left;rw[if_pos e];exact h
 ·right;rw[e,h1];exact⟨rfl,h2⟩
theorem ik{os:List Nat}{x y:Nat}(h:∀o∈os,o<b)(hp:¬eO (cnt os b)=true)(hx:x∈os)(hy:y∈os):x=y:=by
 have hl:(jV (cnt os b)).length=((Ej b).filter λf=>decide (0<os.count f)).length:=by
  unfold jV cnt;rw[List.filter_map,Ea];rfl
 have hm:∀z,z∈os->z∈(Ej b).filter λf=>decide (0<os.count f):=λz hz=>G3.mpr ⟨ER.mpr (h z hz),decide_eq_true (List.count_pos_iff.mpr hz)⟩
 have h1:((Ej b).filter λf=>decide (0<os.count f)).length<=1:=by
  rw[<-hl];unfold eO at hp;have:=of_decide_eq_false (Bool.eq_false_iff.mpr hp);lia
 have g1:=hm x hx;have g2:=hm y hy;generalize (Ej b).filter (λf=>decide (0<os.count f))=l at h1 g1 g2
 match l,h1,g1,g2 with
 | [z],_,g1,g2=>rw[EG.mp g1,EG.mp g2]
 | _::_::_,h1,_,_=>simp at h1
theorem se{w:Nat}{os:List Nat}(hl:∀r∈rss,r.length=w)(hc:c<w)(hP:os.Perm (Ej rss.length))(hS:os.Pairwise (Rk rss (c+1)))(hB:ByF (os.map λp=>(cu rss c).getD p 0) ob):(cmp os ob).Pairwise (Rk rss c):=by
 have hn:os.length=rss.length:=by have:=hP.length_eq;simpa using this
 have hO:=hB.ord;have hr:=hB.rise;rw[Ea]at hO;unfold cmp;rw[KW];refine F2 (λ{i j} hi hj h=>?_) hr;have h1:=hO.lt i hi;have h2:=hO.lt j hj;have g1:os.getD i 0=os[i]:=by rw[Eb,D9 h1];rfl
 have g2:os.getD j 0=os[j]:=by rw[Eb,D9 h2];rfl
 have m1:os[i]<rss.length:=by simpa using hP.mem_iff.mp (Es h1)
 have m2:os[j]<rss.length:=by simpa using hP.mem_iff.mp (Es h2)
 have e1:(os.map λp=>(cu rss c).getD p 0).getD i 0=(cu rss c).getD os[i] 0:=by
  rw[Eb,Eh,D9 h1];rfl
 have e2:(os.map λp=>(cu rss c).getD p 0).getD j 0=(cu rss c).getD os[j] 0:=by
  rw[Eb,Eh,D9 h2];rfl
 rw[g1,g2];rw[e1,e2]at h;refine Rk.col m1 m2 hl hc ?_;rcases h with h|⟨h,hij⟩
 ·exact .inl h
 ·exact .inr ⟨h,EW.mp hS i j h1 h2 hij⟩
theorem sf{w:Nat}{os:List Nat}(hl:∀r∈rss,r.length=w)(hb:∀o∈cu rss c,o<b)(hc:c<w)(hP:os.Perm (Ej rss.length))(hS:os.Pairwise (Rk rss (c+1)))(hp:¬eO (cnt (cu rss c) b)=true):os.Pairwise (Rk rss c):=by
 refine F2 (λ{i j} hi hj h=>?_) hS;have m1:i<rss.length:=by simpa using hP.mem_iff.mp hi
 have m2:j<rss.length:=by simpa using hP.mem_iff.mp hj
 refine Rk.col m1 m2 hl hc (.inr ⟨?_,h⟩);have hm:∀i,i<rss.length->(cu rss c).getD i 0∈cu rss c:=λi h=>by
  have h':i<(cu rss c).length:=by simpa [cu]using h
  rw[Eb,D9 h'];exact Es h'
 exact ik hb hp (hm i m1) (hm j m2)
theorem j0(h:∀r∈rss,r.length<=c):(Ej rss.length).Pairwise (Rk rss c):=by
 refine F2 (λ{i j} hi hj h'=>?_) JG;have m1:i<rss.length:=by simpa using hi
 have m2:j<rss.length:=by simpa using hj
 have e:∀i,i<rss.length->(rss.getD i []).drop c=[]:=λi hi=>by
  rw[Eb,D9 hi];exact JH (h _ (Es hi))
 exact .inr ⟨by rw[e i m1,e j m2],h'⟩
section
variable{X:Cx}{o a b e:Expr}{to ta tb te:TE}{pos p2 tpos:Pos}
def Ca(to ta tb:TE):TG:=λv σ H R=>to σ H λx H1=>ta σ H1 λy H2=>tb σ H2 λz H3=>∃(l c:Addr) (xs ys:List V) (i j:Int),x=.ref l/\v=.ref c/\y=.int i/\z=.int j/\H3 l=some (.lst xs)/\H3 c=some (.lst ys)/\l≠c/\0<=i/\i<=j/\j<=xs.length/\xs.length+ys.length<=Oo/\R σ (upd H3 l (.lst (xs.take i.toNat++ys++xs.drop j.toNat)))
theorem zz(ho:PE X o to)(ha:PE X a ta)(hb:PE X b tb)
  (has:∀v,assign (.Subscript o (.Slice (some a) (some b) none p2) pos) X.env v=(do
   let ov <-OF [v] (eval o X.env)
   let iv <-OF [v,ov] (eval (.Slice (some a) (some b) none p2) X.env)
   standAt pos
   OF [v,ov,iv] (setItem ov iv v)
   release [iv,v,ov] []):=by intro _;rfl):PG X (.Subscript o (.Slice (some a) (some b) none p2) pos) (Ca to ta tb):=by
 intro pins s σ H v u Q I r h;rw[has];refine On (OC (thn (ho pins s σ H _ I h) λov s1 ⟨x,H1,I1,r1,q1⟩=>?_));refine On (OC (wpAny_Slice (evalPart_some_step (thn (ha pins s1 σ H1 _ I1 q1) λiv s2 ⟨y,H2,I2,r2,q2⟩=>?_))));refine evalPart_some_step (thn (hb pins s2 σ H2 _ I2 q2) λjv s3 ⟨z,H3,I3,r3,q3⟩=>?_);refine evalPart_none_step ?_;obtain⟨l,c,xs,ys,i,j,rfl,rfl,rfl,rfl,hl,hc,hne,h0,hij,hj,hz,q⟩:=q3;cases r1;cases r;have I4:Inv X pins σ H3 { s3 with heap:=s3.heap.push { cls:=.type "slice",data:=.fields #[iv,jv,.none] } }:=I3.kept (t':=s3.toks) λb ob q=>El _ q
 refine On (ON (On (OC (oT I4 hl hc hne (Iy ..) r2 r3 h0 hij hj hz λs' I'=>?_))));exact wpAny_release ⟨σ,_,I',q⟩
theorem uG(he:QE X e te)(ho:QE X o to)(ha:QE X a ta)(hb:QE X b tb)
  (has:∀v,assign (.Subscript o (.Slice (some a) (some b) none p2) tpos) X.env v=(do
   let ov <-OF [v] (eval o X.env)
   let iv <-OF [v,ov] (eval (.Slice (some a) (some b) none p2) X.env)
   standAt tpos
   OF [v,ov,iv] (setItem ov iv v)
   release [iv,v,ov] []):=by intro _;rfl)
  (hs:OO [.Subscript o (.Slice (some a) (some b) none p2) tpos] e pos.line X.env=pure false:=by rfl) (hw:OP [.Subscript o (.Slice (some a) (some b) none p2) tpos] e X.env=pure none:=by rfl)
  (h1:(OE [.Subscript o (.Slice (some a) (some b) none p2) tpos] X.env).map (·.2)=[assign (.Subscript o (.Slice (some a) (some b) none p2) tpos) X.env]:=by rfl) :
  QS X (.Assign [.Subscript o (.Slice (some a) (some b) none p2) tpos] e pos) (nj te (Ca to ta tb)):=⟨oq he.out (zz ho.out ha.out hb.out has) hs hw h1⟩
theorem wB:QS X (.Continue pos) vn:=⟨kT⟩
end
section
variable{K:Ec}{σ:St}{H:Hp}{Q:VK}{D:Ends}
theorem Cb{R:St->Hp->Prop}(h:to σ H λx H1=>ta σ H1 λy H2=>tb σ H2 λz H3=>∃(l c:Addr) (xs ys:List V) (i j:Int),x=.ref l/\v=.ref c/\y=.int i/\z=.int j/\H3 l=some (.lst xs)/\H3 c=some (.lst ys)/\l≠c/\0<=i/\i<=j/\j<=xs.length/\xs.length+ys.length<=Oo/\R σ (upd H3 l (.lst (xs.take i.toNat++ys++xs.drop j.toNat)))):Ca to ta tb v σ H R:=h
theorem Cc(h:D.ct σ H):vn D σ H:=h
theorem df{x y z:V}{R:St->Hp->Prop}(e:H p=some (.tup [x,y,z]))(h:R (((σ.set i (some x)).set j (some y)).set k (some z)) H):AD K 3 (kU (dm i) (kU (dm j) (kU (dm k) AC))) (.ref p) σ H R:=
 ⟨p,_,rfl,Of e,rfl,_,_,rfl,_,_,rfl,_,_,rfl,rfl,h⟩
theorem j2{c:Addr}(h1:H l=some (.lst xs))(h2:H c=some (.lst ys))(hz:xs.length+ys.length<=Oo)(h:Q .non (upd H l (.lst (xs++ys)))):k9 (.ref l) [.ref c] H Q:=⟨l,c,xs,ys,rfl,rfl,h1,h2,hz,h⟩
theorem pM{y:V}(h1:H l=some (.lst (xs++[y])))(h:Q y (upd H l (.lst xs))):BB (.ref l) [] H Q:=⟨l,_,y,rfl,rfl,h1,by simp,by rw[List.dropLast_concat];exact h⟩
end
theorem mF:∀{c:Nat}{a b:List Nat},a.take c=b.take c->c<a.length->c<b.length->a.getD c 0<b.getD c 0->lxt a b=true
 | 0,x::a,y::b,_,_,_,h=>by rw[de,if_neg (by simp at h;lia)];exact decide_eq_true (by simpa using h)
 | c+1,x::a,y::b,e,h1,h2,h=>by
  rw[Kc,Kc]at e;injection e with e1 e2
  rw[de,if_pos e1];exact mF e2 (by simpa using h1) (by simpa using h2) (by simpa using h)
 | _,[],_,_,h1,_,_=>by simp at h1
 | _,_::_,[],_,_,h2,_=>by simp at h2
theorem mG{os:List Nat}{g:Nat}(hk:k<os.length)(h1:bV os g<=dR os k)(h2:dR os k<bV os (g+1)):os.getD k 0=g:=by
 have r1:=eQ hk;have r2:bV os (os.getD k 0)<=dR os k:=by unfold dR;lia
 rcases FG (os.getD k 0) g with h|h|h
 ·have:=cY (os:=os) (f:=os.getD k 0+1) (g:=g) h;lia
 ·exact h
 ·have:=cY (os:=os) (f:=g+1) (g:=os.getD k 0) h;lia
noncomputable abbrev dj:=Nat×Nat×Nat
structure Msd (rss:List (List Nat)) (C:Nat) (os:List Nat) (ws:List dj):Prop where
 perm:os.Perm (Ej rss.length)
 ok:∀s∈ws,s.1<=s.2.1/\s.2.1<=rss.length/\s.2.2<=C
 dis:ws.Pairwise λs t=>s.2.1<=t.1\/t.2.1<=s.1
 like:∀s∈ws,∀i j,s.1<=i->i<j->j<s.2.1->(rss.getD (os.getD i 0) []).take s.2.2=(rss.getD (os.getD j 0) []).take s.2.2/\os.getD i 0<os.getD j 0
 rest:∀i j,i<j->j<rss.length->Rk rss 0 (os.getD i 0) (os.getD j 0)\/∃s∈ws,s.1<=i/\j<s.2.1
theorem Msd.ok'{C:Nat}{os:List Nat}{ws:List dj}(h:Msd rss C os ws):∀s∈ws,s.2.2<=C:=λs hs=>(h.ok s hs).2.2
theorem il(h:i<n):(Ej n).getD i 0=i:=by rw[Eb,FH h];rfl
theorem Msd.start(rss:List (List Nat))(C:Nat):Msd rss C (Ej rss.length) [(0,rss.length,0)]:=by
 refine⟨GN _,λs hs=>?_,GA ..,λs hs i j h1 h2 h3=>?_,λi j h1 h2=>.inr ⟨_,EG.mpr rfl,Eo _,h2⟩⟩
 ·rw[EG.mp hs];exact⟨Eo _,Ed _,Eo _⟩
 ·rw[EG.mp hs]at h1 h3 ⊢
  have h3:j<rss.length:=h3;rw[il h3,il (by lia:i<rss.length)];exact⟨rfl,h2⟩
theorem Msd.done{C:Nat}{os:List Nat}(h:Msd rss C os []):os.Pairwise (Rk rss 0):=by
 have hl:os.length=rss.length:=by have:=h.perm.length_eq;simpa using this
 rw[EW];intro i j hi hj hij;have e1:os.getD i 0=os[i]:=by rw[Eb,D9 hi];rfl
 have e2:os.getD j 0=os[j]:=by rw[Eb,D9 hj];rfl
 rcases h.rest i j hij ⋯with g|⟨s,hs,_⟩
 ·rw[e1,e2]at g;exact g
 ·cases hs
theorem Msd.at{C:Nat}{os:List Nat}{ws:List dj}(h:Msd rss C os ws)(hi:i<rss.length):os.getD i 0<rss.length:=by
 have hl:os.length=rss.length:=by have:=h.perm.length_eq;simpa using this
 have hi':i<os.length:=by lia
 rw[Eb,D9 hi'];simpa using h.perm.mem_iff.mp (Es hi')
theorem fg{C p:Nat}(hw:∀r∈rss,r.length=C)(hp:p<rss.length):(rss.getD p []).length=C:=by
 rw[Eb,D9 hp];exact hw _ (Es hp)
theorem Msd.skip{C:Nat}{os:List Nat}{ws:List dj}{f l:Nat}(h:Msd rss C os (ws++[(f,l,c)]))(hw:∀r∈rss,r.length=C)(hs:l<f+2\/c=C):Msd rss C os ws:=by
 have hm:(f,l,c)∈ws++[(f,l,c)]:=EO _ (EG.mpr rfl);refine⟨h.perm,λs hs=>h.ok s (FB _ hs),(F3.mp h.dis).1,λs hs=>h.like s (FB _ hs),λi j hij hj=>?_⟩;rcases h.rest i j hij hj with g|⟨s,hs',h1,h2⟩
 ·exact .inl g
 ·rcases ET.mp hs' with g|g
  ·exact .inr ⟨s,g,h1,h2⟩
  ·rw[EG.mp g]at h1 h2
   have h1:f<=i:=h1;have h2:j<l:=h2;rcases hs with hs|hs
   ·lia
   ·obtain⟨e1,e2⟩:=h.like _ hm i j h1 hij h2
    left;right;rw[Fw,Fw];have e1:(rss.getD (os.getD i 0) []).take c=(rss.getD (os.getD j 0) []).take c:=e1;rw[Ee (by rw[fg hw (h.at ⋯)];lia),Ee (by rw[fg hw (h.at hj)];lia)]at e1;exact⟨e1,e2⟩
noncomputable def bA(f:Nat)(cs:List Nat)(c:Nat):List dj:=(Ej cs.length).map λg=>(f+(cs.take g).sum,f+(cs.take g).sum+cs.getD g 0,c)
theorem fh{f:Nat}{row:List Nat}{s:dj}(h:s∈bA f (cnt row b) c):∃g,g<b/\s=(f+bV row g,f+bV row (g+1),c):=by
 unfold bA at h;obtain⟨g,hg,rfl⟩:=EC.mp h;rw[bF,ER]at hg;refine⟨g,hg,?_⟩;rw[bP row b g ⋯,cA,Eb,d7 hg,IK];rfl
theorem nN{f g:Nat}{row:List Nat}(hg:g<b):(f+bV row g,f+bV row (g+1),c)∈bA f (cnt row b) c:=by
 unfold bA;refine EC.mpr ⟨g,ER.mpr (by rw[bF];exact hg),?_⟩;rw[bP row b g ⋯,cA,Eb,d7 hg,IK];rfl
theorem partsF_dis{f:Nat}{row:List Nat}:(bA f (cnt row b) c).Pairwise λs t=>s.2.1<=t.1\/t.2.1<=s.1:=by
 unfold bA;rw[KW];refine F2 (λ{g h} hg hh hgh=>?_) JG;rw[bF,ER]at hg hh;left;have e:(cnt row b).getD g 0=row.count g:=by rw[Eb,d7 hg];rfl
 show f+((cnt row b).take g).sum+(cnt row b).getD g 0<=f+((cnt row b).take h).sum
 rw[bP row b g ⋯,bP row b h ⋯,e];have:=cY (os:=row) (f:=g+1) (g:=h) hgh;rw[cA]at this;lia
theorem Msd.step{C:Nat}{os:List Nat}{ws:List dj}{f l:Nat}(h:Msd rss C os (ws++[(f,l,c)]))(hw:∀r∈rss,r.length=C)(hc:c<C)(hb:∀o∈cu rss c,o<b)
  (hB:ByF (((os.drop f).take (l - f)).map λp=>(cu rss c).getD p 0) ob):Msd rss C (os.take f++cmp ((os.drop f).take (l - f)) ob++os.drop l) (ws++(bA f (cnt (((os.drop f).take (l - f)).map λp=>(cu rss c).getD p 0) b) (c+1)).reverse):=by
 have hm:(f,l,c)∈ws++[(f,l,c)]:=EO _ (EG.mpr rfl);obtain⟨hfl,hln,_⟩:=h.ok _ hm;have hfl:f<=l:=hfl;have hln:l<=rss.length:=hln;have hol:os.length=rss.length:=by have:=h.perm.length_eq;simpa using this
 have hsl:((os.drop f).take (l - f)).length=l - f:=by rw[EI,Ft];lia
 have hrl:(((os.drop f).take (l - f)).map λp=>(cu rss c).getD p 0).length=l - f:=by rw[Ea,hsl]
 have hO:=hB.ord;rw[hrl]at hO;have hrise:=hB.rise;have hold:=h.like _ hm;have hold:∀i j,f<=i->i<j->j<l->(rss.getD (os.getD i 0) []).take c=(rss.getD (os.getD j 0) []).take c/\os.getD i 0<os.getD j 0:=hold
 have segD:∀k,k<l - f->((os.drop f).take (l - f)).getD k 0=os.getD (f+k) 0:=λk hk=>by
  rw[Eb,G6 hk,Kv,Eb]
 have rowDk:∀k,k<l - f->(((os.drop f).take (l - f)).map λp=>(cu rss c).getD p 0).getD k 0=(cu rss c).getD (os.getD (f+k) 0) 0:=λk hk=>by
  rw[Eb,Eh,<-segD k hk,Eb (l:=(os.drop f).take (l - f)),D9 (by lia:k<((os.drop f).take (l - f)).length)];rfl
 have hfig:∀k,k<l - f->(rss.getD (os.getD (f+k) 0) []).getD c 0=(cu rss c).getD (os.getD (f+k) 0) 0:=λk hk=>by
  have:=h.at (i:=f+k) ⋯;unfold cu;rw[Eb (l:=rss.map _),Eh,D9 this,Eb (l:=rss),D9 this];rfl
 -- where each comes from
 have hpi:∀i,i<rss.length->(f<=i/\i<l->∃k,k<l - f/\ob[i - f]? = some k/\i - f=dR (((os.drop f).take (l - f)).map λp=>(cu rss c).getD p 0) k/\(os.take f++cmp ((os.drop f).take (l - f)) ob++os.drop l).getD i 0=os.getD (f+k) 0)/\(¬(f<=i/\i<l)->(os.take f++cmp ((os.drop f).take (l - f)) ob++os.drop l).getD i 0=os.getD i 0):=by
  intro i hi;have hcl:(cmp ((os.drop f).take (l - f)) ob).length=l - f:=by rw[ff,hO.len]
  have htl:(os.take f).length=f:=by rw[EI];lia
  constructor
  ·rintro⟨h1,h2⟩
   obtain⟨k,hk,hkl⟩:=hO.get (i:=i - f) ⋯;refine⟨k,hkl,hk,(hB.get hk).2,?_⟩;rw[Eb,Ep (by rw[En,htl,hcl];lia),Ey (by rw[htl];exact h1),htl,lx hk (r:=((os.drop f).take (l - f))[k]'⋯) (D9 _)];rw[<-segD k hkl,Eb,D9 ⋯]
  ·intro hn
   by_cases h1:i<f
   ·rw[Eb,Ep (by rw[En,htl];lia),Ep (by rw[htl];exact h1),G6 h1,Eb]
   ·rw[Eb,Ey (by rw[En,htl,hcl];lia),En,htl,hcl,Kv,Eb]
    congr 2;lia
 have hdis:∀s∈ws,s.2.1<=f\/l<=s.1:=λs hs=>by
  have:=(F3.mp h.dis).2.2 s hs (f,l,c) (EG.mpr rfl);exact this
 have hlik:∀k1 k2,k1<l - f->k2<l - f->k1≠k2->(rss.getD (os.getD (f+k1) 0) []).take c=(rss.getD (os.getD (f+k2) 0) []).take c:=λk1 k2 h1 h2 hne=>by
  rcases Ku hne with g|g
  ·exact(hold (f+k1) (f+k2) ⋯ ⋯ ⋯).1
  ·exact(hold (f+k2) (f+k1) ⋯ ⋯ ⋯).1.symm
 generalize hrow:((os.drop f).take (l - f)).map (λp=>(cu rss c).getD p 0)=row at *;have hrlt:∀k,k<l - f->row.getD k 0<b:=λk hk=>by
  rw[rowDk k hk];have:=h.at (i:=f+k) ⋯;have h':os.getD (f+k) 0<(cu rss c).length:=by simpa [cu]using this
  rw[Eb,D9 h'];exact hb _ (Es h')
 have rise:∀i j k1 k2,i<j->ob[i]? = some k1->ob[j]? = some k2->row.getD k1 0<row.getD k2 0\/row.getD k1 0=row.getD k2 0/\k1<k2:=λi j k1 k2 hij e1 e2=>by
  obtain⟨a1,a2⟩:=Ei.mp e1;obtain⟨b1,b2⟩:=Ei.mp e2;have:=EW.mp hrise i j a1 b1 hij;rw[a2,b2]at this;exact this
 generalize hos':os.take f++cmp ((os.drop f).take (l - f)) ob++os.drop l=os' at *;refine⟨?_,λs hs=>?_,?_,λs hs i j h1 h2 h3=>?_,λi j hij hj=>?_⟩
 ·rw[<-hos']
  refine LV ?_ h.perm;have e:os=os.take f++(os.drop f).take (l - f)++os.drop l:=by
   have e1:os.drop l=(os.drop f).drop (l - f):=by rw[He];congr 1;lia
   rw[e1,Fi,Gj,Gj]
  conv=>rhs;rw[e]
  refine Ng _ (JO _ ?_);exact iY (by rw[hsl];exact hO.perm)
 ·rcases ET.mp hs with g|g
  ·exact h.ok s (FB _ g)
  ·obtain⟨z,hz,rfl⟩:=fh (Gv.mp g)
   have:=cY (os:=row) (f:=z) (g:=z+1) ⋯;have:=fL row (z+1);exact⟨by show f+_<=f+_;lia,by show f+_<=_;lia,hc⟩
 ·rw[F3]
  refine⟨(F3.mp h.dis).1,?_,λs hs t ht=>?_⟩
  ·rw[List.pairwise_reverse]
   exact partsF_dis.imp λ{s t} g=>g.symm
  ·obtain⟨z,hz,rfl⟩:=fh (Gv.mp ht)
   have:=fL row (z+1);rcases hdis s hs with g|g
   ·left;show s.2.1<=f+_;lia
   ·right;show f+_<=s.1;lia
 ·rcases ET.mp hs with g|g
  ·have:=(h.ok s (FB _ g)).2.1
   have hd:=hdis s g;rw[(hpi i ⋯).2 ⋯,(hpi j ⋯).2 ⋯];exact h.like s (FB _ g) i j h1 h2 h3
  ·obtain⟨z,hz,rfl⟩:=fh (Gv.mp g)
   have h1:f+bV row z<=i:=h1;have h3:j<f+bV row (z+1):=h3;have hle:=fL row (z+1);obtain⟨k1,hk1,o1,p1,e1⟩:=(hpi i ⋯).1 ⟨by lia,by lia⟩;obtain⟨k2,hk2,o2,p2,e2⟩:=(hpi j ⋯).1 ⟨by lia,by lia⟩;have f1:=mG (os:=row) (k:=k1) (g:=z) ⋯ ⋯ ⋯;have f2:=mG (os:=row) (k:=k2) (g:=z) ⋯ ⋯ ⋯;have hk:k1<k2:=by
    rcases rise (i - f) (j - f) k1 k2 ⋯ o1 o2 with g|⟨_,g⟩
    ·lia
    ·exact g
   obtain⟨t1,t2⟩:=hold (f+k1) (f+k2) ⋯ ⋯ ⋯;rw[e1,e2];refine⟨?_,t2⟩;show(rss.getD (os.getD (f+k1) 0) []).take (c+1)=(rss.getD (os.getD (f+k2) 0) []).take (c+1)
   have l1:=fg hw (h.at (i:=f+k1) ⋯);have l2:=fg hw (h.at (i:=f+k2) ⋯);have g1:=hfig k1 hk1;have g2:=hfig k2 hk2;rw[<-rowDk k1 hk1,f1]at g1;rw[<-rowDk k2 hk2,f2]at g2;rw[Em,Em,t1,D9 ⋯,D9 ⋯];rw[Eb,D9 ⋯]at g1 g2;simp only[Le]at g1 g2;rw[g1,g2]
 ·by_cases hin:f<=i/\j<l
  ·obtain⟨k1,hk1,o1,p1,e1⟩:=(hpi i ⋯).1 ⟨by lia,by lia⟩
   obtain⟨k2,hk2,o2,p2,e2⟩:=(hpi j ⋯).1 ⟨by lia,by lia⟩;have hne:k1≠k2:=λz=>by subst z;lia
   rcases rise (i - f) (j - f) k1 k2 ⋯ o1 o2 with g|⟨g,gk⟩
   ·left;left
    rw[Fw,Fw,e1,e2];refine mF (c:=c) (hlik k1 k2 hk1 hk2 hne) (by rw[fg hw (h.at ⋯)];exact hc) (by rw[fg hw (h.at ⋯)];exact hc) ?_;rw[hfig k1 hk1,hfig k2 hk2,<-rowDk k1 hk1,<-rowDk k2 hk2];exact g
   ·right
    refine⟨_,EO _ (Gv.mpr (nN (g:=row.getD k1 0) (hrlt k1 hk1))),?_,?_⟩
    ·show f+bV row (row.getD k1 0)<=i
     have:bV row (row.getD k1 0)<=dR row k1:=by unfold dR;lia
     lia
    ·show j<f+bV row (row.getD k1 0+1)
     have:=eQ (os:=row) (k:=k2) ⋯;rw[<-g]at this;lia
  ·-- not both within
   have hout:∀i,i<rss.length->∃i',os'.getD i 0=os.getD i' 0/\((f<=i/\i<l/\f<=i'/\i'<l)\/(¬(f<=i/\i<l)/\i'=i)):=λi hi=>by
    by_cases g:f<=i/\i<l
    ·obtain⟨k1,hk1,o1,p1,e1⟩:=(hpi i hi).1 g
     exact⟨f+k1,e1,.inl ⟨g.1,g.2,by lia,by lia⟩⟩
    ·exact⟨i,(hpi i hi).2 g,.inr ⟨g,rfl⟩⟩
   obtain⟨i',ei,hi'⟩:=hout i ⋯;obtain⟨j',ej,hj'⟩:=hout j hj;rw[ei,ej];have hij':i'<j':=by lia
   have hjn:j'<rss.length:=by lia
   rcases h.rest i' j' hij' hjn with g|⟨s,hs,h1,h2⟩
   ·exact .inl g
   ·rcases ET.mp hs with g|g
    ·have hd:=hdis s g
     have hok:=h.ok s hs;refine .inr ⟨s,FB _ g,?_,?_⟩<;>lia
    ·rw[EG.mp g]at h1 h2
     have h1:f<=i':=h1;have h2:j'<l:=h2;lia
theorem pN{row:List Nat}(h:∀x∈row,∀y∈row,x=y):ByF row (Ej row.length):=by
 refine⟨by simp,λk hk=>?_⟩;have e0:row.getD k 0=row[k]:=by rw[Eb,D9 hk];rfl
 have e1:bV row row[k]=0:=List.countP_eq_zero.mpr λx hx g=>by
  have:=h x hx row[k] (Es hk);have:=of_decide_eq_true g;lia
 have e2:(row.take k).count row[k]=k:=by
  have:(row.take k).count row[k]=(row.take k).length:=List.count_eq_length.mpr λx hx=>h row[k] (Es hk) x (F4 hx)
  rw[this,EI];lia
 have:dR row k=k:=by unfold dR;rw[e0,e1,e2];lia
 rw[this,FH hk]
theorem pO(seg:List Nat)(h:seg.length=n):cmp seg (Ej n)=seg:=by
 subst h;unfold cmp;exact dS seg
noncomputable def i3(b C:Nat)(ws:List dj):Nat:=(ws.map λs=>(b+1) ^ (C+1 - s.2.2)).sum
theorem ip(b C:Nat)(ws:List dj)(s:dj):i3 b C (ws++[s])=i3 b C ws+(b+1) ^ (C+1 - s.2.2):=by
 unfold i3;rw[Ef,F1];simp
theorem mH(b C:Nat)(ws:List dj)(s:dj):i3 b C ws<i3 b C (ws++[s]):=by
 rw[ip];have:0<(b+1) ^ (C+1 - s.2.2):=JI ⋯;lia
theorem gp{α:Type}(k:Nat)(f:α->Nat):∀{xs:List α},(∀x∈xs,f x=k)->(xs.map f).sum=xs.length*k
 | [],_=>by simp
 | x::xs,h=>by
  rw[E1,Fv,h x (EL ..),gp k f (λy hy=>h y (Eu _ hy)),EB,MW];lia
theorem nO{C f l:Nat}(ws:List dj)(hc:c<C)(hl:cs.length=b):i3 b C (ws++(bA f cs (c+1)).reverse)<i3 b C (ws++[(f,l,c)]):=by
 rw[ip];unfold i3;rw[Ef,F1,gp ((b+1) ^ (C+1 - (c+1))) _ (xs:=(bA f cs (c+1)).reverse) (λs hs=>by
  unfold bA at hs;obtain⟨g,_,rfl⟩:=EC.mp (Gv.mp hs);rfl),F9]
 have e1:(bA f cs (c+1)).length=b:=by unfold bA;simp[hl]
 have e2:C+1 - c=(C+1 - (c+1))+1:=by lia
 rw[e1];show _<_+(b+1) ^ (C+1 - c)
 rw[e2,Ia,MX ((b+1) ^ (C+1 - (c+1))) (b+1),Nat.add_mul,Nh];have:0<(b+1) ^ (C+1 - (c+1)):=JI ⋯;lia
noncomputable def eR(ws:List dj):Nat:=(ws.map λs=>s.2.1 - s.1 - 1).sum
theorem lA(ws:List dj)(s:dj):eR (ws++[s])=eR ws+(s.2.1 - s.1 - 1):=by
 unfold eR;rw[Ef,F1];simp
theorem i4:∀cs:List Nat,(cs.map λc=>c - 1).sum+(jV cs).length=cs.sum
 | []=>rfl
 | c::cs=>by
  have ih:=i4 cs;unfold jV at ih ⊢;rw[E1,Fv,Fv];by_cases h:0<c
  ·rw[List.filter_cons_of_pos (by simpa using h),EB];lia
  ·rw[List.filter_cons_of_neg (by simpa using h)];lia
theorem j4(ws:List dj)(f c:Nat)(cs:List Nat):eR (ws++(bA f cs c).reverse)+(jV cs).length=eR ws+cs.sum:=by
 unfold eR;rw[Ef,F1,Ji,List.sum_reverse];have e:(bA f cs c).map (λs=>s.2.1 - s.1 - 1)=cs.map λc=>c - 1:=by
  unfold bA;rw[FD];apply GS (by simp);intro i h1 h2;have hi:i<cs.length:=by simpa using h2
  simp[Eb,D9 hi]
 rw[e];have:=i4 cs;lia
def Low(b:Nat)(ws:List dj):Prop:=∀(i:Nat) s,ws[i]? = some s->i<=b*s.2.2
theorem Low.left{ws vs:List dj}(h:Low b (ws++vs)):Low b ws:=λi s e=>h i s (by rw[Ep (bq e)];exact e)
theorem Low.step{f l:Nat}{ws:List dj}(h:Low b (ws++[(f,l,c)]))(hl:cs.length=b):Low b (ws++(bA f cs (c+1)).reverse):=λi s e=>by
 have h0:ws.length<=b*c:=h ws.length (f,l,c) (by simp);by_cases hi:i<ws.length
 ·exact h i s (by rw[Ep hi]at e ⊢;exact e)
 ·rw[Ey ⋯]at e
  have hm:=Ez e;have hlt:=bq e;unfold bA at hm hlt;rw[F9,Ea,E9,hl]at hlt;obtain⟨g,_,rfl⟩:=EC.mp (Gv.mp hm);show i<=b*(c+1)
  rw[JJ,K5];lia
theorem Low.len{C:Nat}{ws:List dj}(h:Low b ws)(hc:∀s∈ws,s.2.2<=C):ws.length<=b*C+1:=by
 cases hw:ws.length with
 | zero=>lia
 | succ n=>
  have e:ws[n]? = some (ws[n]'⋯):=D9 _;have h1:=h n _ e;have h2:=hc _ (Es (by lia:n<ws.length));have h3:b*(ws[n]'⋯).2.2<=b*C:=Io b h2;lia
def TrAt(H:Hp)(qs:List Addr)(ws:List dj):Prop:=qs.length=ws.length/\∀(i:Nat) q s,qs[i]? = some q->ws[i]? = some s->H q=some (.tup [.int (s.1:Nat),.int (s.2.1:Nat),.int (s.2.2:Nat)])
theorem TrAt.same{H:Hp}{ws:List dj}(h:TrAt H qs ws)(s:Same H H1):TrAt H1 qs ws:=⟨h.1,λi q t a b=>s _ _ (h.2 i q t a b)⟩
theorem TrAt.own{H:Hp}{ws:List dj}(h:TrAt H qs ws)(hl:H l=some (.lst xs)):TrAt (upd H l (.lst ys)) qs ws:=⟨h.1,λi q t a b=>by
 have e:=h.2 i q t a b;rw[ar (qV e hl (by intro c;cases c))];exact e⟩
theorem TrAt.snoc{H:Hp}{ws:List dj}{s:dj}(h:TrAt H qs ws)(e:H q=some (.tup [.int (s.1:Nat),.int (s.2.1:Nat),.int (s.2.2:Nat)])):TrAt H (qs++[q]) (ws++[s]):=by
 refine⟨by simp[h.1],λi p y a b=>?_⟩;rcases bM a with⟨l,a⟩|⟨l,a⟩
 ·rcases bM b with⟨_,b⟩|⟨l',b⟩
  ·exact h.2 i p y a b
  ·have:=h.1;lia
 ·rcases bM b with⟨l',b⟩|⟨_,b⟩
  ·have:=h.1;lia
  ·rw[a,b];exact e
theorem TrAt.app{H:Hp}{rs:List Addr}{ws vs:List dj}(h:TrAt H qs ws)(g:TrAt H rs vs):TrAt H (qs++rs) (ws++vs):=by
 refine⟨by simp[h.1,g.1],λi p y a b=>?_⟩;have hl:=h.1;by_cases hi:i<qs.length
 ·rw[Ep hi]at a
  rw[Ep ⋯]at b;exact h.2 i p y a b
 ·rw[Ey ⋯]at a
  rw[Ey ⋯,<-hl]at b;exact g.2 _ p y a b
theorem TrAt.rev{H:Hp}{ws:List dj}(h:TrAt H ps ws):TrAt H ps.reverse ws.reverse:=by
 refine⟨by simp[h.1],λi q y a b=>?_⟩;have hl:i<ps.length:=by have:=(Ei.mp a).1;simpa using this
 rw[JP hl]at a;rw[JP (by rw[<-h.1];exact hl),<-h.1]at b;exact h.2 _ q y a b
theorem TrAt.last{H:Hp}{ws:List dj}(h:TrAt H qs ws)(hq:qs≠[]):∃rs q vs s,qs=rs++[q]/\ws=vs++[s]/\TrAt H rs vs/\H q=some (.tup [.int (s.1:Nat),.int (s.2.1:Nat),.int (s.2.2:Nat)]):=by
 rcases Hw qs with e|⟨rs,q,e⟩
 ·exact absurd e hq
 ·rcases Hw ws with e2|⟨vs,s,e2⟩
  ·have:=h.1;rw[e,e2]at this;simp at this
  ·rw[JQ]at e e2
   subst e e2;have hl:rs.length=vs.length:=by have:=h.1;simpa using this
   refine⟨rs,q,vs,s,rfl,rfl,⟨hl,λi p t a b=>?_⟩,?_⟩
   ·exact h.2 i p t (by rw[Ep (bq a)];exact a) (by rw[Ep (bq b)];exact b)
   ·exact h.2 rs.length q s (by simp) (by simp[hl])
theorem pP(os:List Nat){f l:Nat}(h1:f<=l)(h2:l<=os.length):kO (NV os) (some (f:Int)) (some (l:Int))=NV ((os.drop f).take (l - f)):=by
 unfold kO;rw[HT.fb,HT.fb,aC,G5 (by lia:f<=os.length),G5 h2];unfold NV;rw[IL,IM]
def Sc(v:V):Prop:=v=.non\/(∃b,v=.bl b)\/(∃i,v=.int i)\/∃x,v=.str x
def Th(H:Hp)(v:V):Prop:=Sc v\/∃t xs,v=.ref t/\H t=some (.tup xs)/\0<xs.length/\xs.length<=2/\∀x∈xs,Sc x
def ThE(H:Hp)(x y:V):Prop:=(Sc x/\y=x)\/∃t u xs,x=.ref t/\y=.ref u/\H t=some (.tup xs)/\H u=some (.tup xs)/\0<xs.length/\xs.length<=2/\∀z∈xs,Sc z
theorem Th.same{H:Hp}(h:Th H v)(s:Same H H1):Th H1 v:=h.elim .inl λ⟨t,xs,e,a,b⟩=>.inr ⟨t,xs,e,s _ _ a,b⟩
theorem ThE.same{H:Hp}{x y:V}(h:ThE H x y)(s:Same H H1):ThE H1 x y:=h.elim .inl λ⟨t,u,xs,e,e',a,a',b⟩=>.inr ⟨t,u,xs,e,e',s _ _ a,s _ _ a',b⟩
section
variable{X:Cx}{e e2 o:Expr}{to te:TE}{t:TA}{pos apos cpos:Pos}
inductive TyC (H:Hp):V->Value->Prop where
 | non:TyC H .non (.type "NoneType")
 | bl (b:Bool):TyC H (.bl b) (.type "bool")
 | int (i:Int):TyC H (.int i) (.type "int")
 | str (x:Str):TyC H (.str x) (.type "str")
 | lst {a:Addr}{xs:List V}(e:H a=some (.lst xs)):TyC H (.ref a) (.type "list")
 | tup {a:Addr}{xs:List V}(e:H a=some (.tup xs)):TyC H (.ref a) (.type "tuple")
def wC (K:Ec):RC:=λxs H Q=>∃x t tp b,xs=[x,.ref tp]/\H tp=some (.tup [.ty "list",.ty "tuple"])/\TyC H x t/\Mc K t [.type "list",.type "tuple"]=some b/\Q (.bl b) H
theorem wD {K:Ec}(hK:X.K=K:=by rfl):QC X (.builtin "isinstance") (wC K):=by
 subst hK;refine⟨λpins s σ H xs us Q I r h=>?_⟩;obtain⟨x,t,tp,b,rfl,htp,ty,e,q⟩:=h;cases r with
 | cons rx rr=>
  cases rr with
  | cons ry rr=>
   cases rr;cases ry;obtain⟨_,its,rv,⟨⟨c,dd,dt,sl⟩,g1,g2,n,g3⟩⟩:=(show ObjOk X.prog X.w H s.heap tp (.tup [.ty "list",.ty "tuple"])from I.hok tp _ htp);have g2':c=.type "tuple":=g2;have g3':dt=.seq its.toArray n:=g3;subst g2' g3';have ei:its=[.type "list",.type "tuple"]:=by
    cases rv with
    | cons r1 rr=>
     cases rr with
     | cons r2 rr=>
      cases rr;cases r1;cases r2;rfl
   subst ei;have fin:∀tk,EP X pins σ Q (.bool b) { s with toks:=tk }:=λtk=>⟨.bl b,H,I.tok _,rfl,q⟩
   cases ty with
   | non=>cases(show _=Fb from rx);exact FJ IU I.kIn Ek g1 e (λz=>nomatch z) fin
   | bl i=>cases(show _=Hy i from rx);exact FJ KO I.kIn Ek g1 e (λz=>nomatch z) fin
   | int i=>obtain⟨tt,rfl⟩:=rx;exact FJ Jd I.kIn Ek g1 e (λz=>nomatch z) fin
   | str i=>obtain⟨tt,rfl⟩:=rx;exact FJ La I.kIn Ek g1 e (λz=>nomatch z) fin
   | @lst a xs ea=>
    cases rx;obtain⟨_,_,n',_,h1⟩:=(show ObjOk X.prog X.w H s.heap a (.lst xs)from I.hok a _ ea);exact FJ Hl I.kIn ⟨_,h1,rfl⟩ g1 e (λz=>nomatch z) fin
   | @tup a xs ea=>
    cases rx;obtain⟨_,_,_,⟨o',h1,h2,_⟩⟩:=(show ObjOk X.prog X.w H s.heap a (.tup xs)from I.hok a _ ea);exact FJ Iu I.kIn ⟨_,h1,h2⟩ g1 e (λz=>nomatch z) fin
theorem gq(l:Addr)(items:Array Value)(n:Nat)(b:Addr)(items2:Array Value)(n2:Nat)(dd2:Option Addr)(sl2:Array (Option Value))(hlong:¬(!items.isEmpty && FM (items.size+items2.size))=true)(hz:items.size<=Oo)(hz2:items.size+items2.size<=Oo+1):
  Meets (Builtin.«list.extend» ⟨[.ref l,.ref b],[]⟩)
   (λ_ R s=>s.heap.get? l=some { cls:=.type "list",data:=.seq items n }/\s.heap.get? b=some { cls:=.type "tuple",dict:=dd2,data:=.seq items2 n2,slots:=sl2 }/\
    R (.ok (.ret .none)) { s with heap:=s.heap.update l (Fc λx=>x++items2) }):=
 .of_wp λprog w A R s h=>by
  obtain⟨hp,g,d,tk,os⟩:=s;obtain⟨hl,hb,h⟩:=h;have f2:=G7
  wp_walk using Ib hl,Ib hb
  have e9:(Fc (λx=>x++items2) { cls:=FY "list",data:=N4 items n }).data.pastItsLine=none:=by
   unfold Fc Data.pastItsLine;simp;lia
  rw[e9];exact Oq (Oq ⟨_,rfl,h⟩)
def i5:V->List V->Hp->VK->Prop:=λx vs H Q=>∃l b xs zs,x=.ref l/\vs=[.ref b]/\H l=some (.lst xs)/\H b=some (.tup zs)/\xs.length+zs.length<=Oo/\Q .non (upd H l (.lst (xs++zs)))
theorem nP:MtM X "list.extend" i5:=by
 intro pins s σ H x vs v us Q I rx rv h;obtain⟨l,b,xs,zs,rfl,rfl,hH,hB,hz,q⟩:=h;cases rx;obtain⟨u,rfl,ru⟩:=rv.one;cases ru;obtain⟨z,its,n,r,hl,e⟩:=I.lstM hH;obtain⟨its2,r2,⟨⟨c2,d2,t2,l2⟩,o4,o5,n2,o6⟩,hz2⟩:=I.tuple (Of hB);have hl2:=r2.length;have o5':c2=.type "tuple":=o5;have o6':t2=.seq its2.toArray n2:=o6;subst o5' o6';have hsz:its.toArray.size+its2.toArray.size<=Oo:=by rw[Et,Et];lia
 have hlong:¬(!its.toArray.isEmpty && FM (its.toArray.size+its2.toArray.size))=true:=by
  rw[eF hsz,Ma];exact ED
 refine OK Kq ⟨_,e,rfl⟩ Kb (J2 _ _)
  (gq l its.toArray n b its2.toArray n2 d2 l2 hlong (by rw[Et];lia) ⋯) ⟨e,o4,?_⟩
 refine⟨.non,_,I.lset (its':=its++its2) hH e (by simp) (r.append r2) ?_,rfl,q⟩;rw[En];lia
theorem nQ {K:Ec}(ho:QE X o to) (ha:QA X [e] t) (hbase:Ow o ("extend" : Str) X.env (eval o X.env)=eval o X.env:=by rfl) (hline:(apos.endLine == cpos.line)=true:=by rfl) (hn:bK e=true:=by rfl) (hK:X.K=K:=by rfl) :
  QE X (.Call (.Attribute o "extend" apos) [e] [] cpos) (tBM K "list" i5 to t):=by subst hK;exact⟨fw Gz Jj Jk nP ho.out ha.out hbase hline hn⟩
end
section
variable{K:Ec}{σ:St}{H:Hp}{Q:VK}
theorem mI {x:V}{tp:Addr}(e:H tp=some (.tup [.ty "list",.ty "tuple"])) (hx:Sc x) (h:Q (.bl false) H):wC K [x,.ref tp] H Q:=by
 rcases hx with rfl|⟨b,rfl⟩|⟨i,rfl⟩|⟨s,rfl⟩
 ·exact⟨_,_,tp,_,rfl,e,.non,rfl,h⟩
 ·exact⟨_,_,tp,_,rfl,e,.bl b,rfl,h⟩
 ·exact⟨_,_,tp,_,rfl,e,.int i,rfl,h⟩
 ·exact⟨_,_,tp,_,rfl,e,.str s,rfl,h⟩
theorem sg {tp:Addr}(s:H p=some (.tup xs)) (e:H tp=some (.tup [.ty "list",.ty "tuple"])) (h:Q (.bl true) H):wC K [.ref p,.ref tp] H Q:=⟨_,_,tp,_,rfl,e,.tup s,rfl,h⟩
theorem mJ {x:V}(hx:Sc x) (h:Q (.bl false) H):qT K [x,.ty "list"] H Q:=by
 rcases hx with rfl|⟨b,rfl⟩|⟨i,rfl⟩|⟨s,rfl⟩
 ·exact⟨_,_,_,_,rfl,.non,rfl,h⟩
 ·exact⟨_,_,_,_,rfl,.bl b,rfl,h⟩
 ·exact⟨_,_,_,_,rfl,.int i,rfl,h⟩
 ·exact⟨_,_,_,_,rfl,.str s,rfl,h⟩
theorem mK {x:V}(hx:Sc x) (h:Q (.bl false) H):qT K [x,.ty "tuple"] H Q:=by
 rcases hx with rfl|⟨b,rfl⟩|⟨i,rfl⟩|⟨s,rfl⟩
 ·exact⟨_,_,_,_,rfl,.non,rfl,h⟩
 ·exact⟨_,_,_,_,rfl,.bl b,rfl,h⟩
 ·exact⟨_,_,_,_,rfl,.int i,rfl,h⟩
 ·exact⟨_,_,_,_,rfl,.str s,rfl,h⟩
theorem AR (h:Q (.bl true) H):qT K [.str x,.ty "str"] H Q:=⟨_,_,_,_,rfl,.str x,rfl,h⟩
theorem nR{c:Addr}(h1:H l=some (.lst xs))(h2:H c=some (.tup ys))(hz:xs.length+ys.length<=Oo)(h:Q .non (upd H l (.lst (xs++ys)))):i5 (.ref l) [.ref c] H Q:=⟨l,c,xs,ys,rfl,rfl,h1,h2,hz,h⟩
end
theorem zA(n:Nat):Fz 0 (n:Int) 2=((n+1) / 2:Nat):=by
 unfold Fz;rw[if_pos (by decide)];split
 ·lia
 ·lia
theorem c3{i:Int}(h1:-1000000<=i)(h2:i<=1000000):GQ i=true:=by
 unfold GQ;rw[Fu];exact⟨decide_eq_true (MY (by decide) h1),decide_eq_true (Int.lt_of_le_of_lt h2 (by decide))⟩
theorem zB(h:n<=1000):GX 0 (n:Int) 2=true:=by
 unfold GX;rw[zA,c3 (i:=0) (by decide) (by decide),c3 (i:=(n:Int)) ⋯ ⋯,c3 (i:=2) (by decide) (by decide),c3 (i:=(((n+1) / 2:Nat):Int)) ⋯ ⋯,if_pos (by decide),c3 (i:=(n:Int)+(2 - 1)) ⋯ ⋯,MZ];rfl
def It2(n:Nat):It:=⟨λi _=>i<(n+1) / 2,λi H x H'=>H'=H/\x=.int ((2*i:Nat):Int),λi _=>(n+1) / 2<=i⟩
theorem lB{w:World}{K:Ec}(it:Addr)(n:Nat):Turn P w K tg (It2 n) [it] it (λi h=>IsRangeIter h it ((0:Int)+(i:Nat)*2) ((((n+1) / 2:Nat):Int) - (i:Nat)) 2) where
 mem:=by simp
 obj:=λi h st b hb=>by
  have e:b=it:=by simpa using hb
  subst e;exact⟨_,st,λv z=>by
   have z':K2 _=Mh v:=z;cases z'⟩
 keep:=λi h h' st k=>k it (by simp) _ st
 item:=by
  intro X hP hw hK hc i pins s σ H E I hf st hg;subst hP hw hK;obtain⟨f0,f1,f2,f3,f4,f5⟩:=hf it (by simp);have hi:i<(n+1) / 2:=hg;have W:=K3 (prog:=X.prog) (w:=X.w) (I.ok.hd hc) it 0 2 ((n+1) / 2);refine W.item i s _ _ hg st λv h' tk hv st' kk=>?_
  obtain⟨t,rfl⟩:=hv;have I1:Inv X pins σ H { s with heap:=h',toks:=tk }:=I.turned (λb o hb e=>kk b o (by simpa using hb) e) f0 f1 f3 f4 f5;refine⟨_,rfl,nk (s:={ s with heap:=h',toks:=tk }) (n:="range_iterator") st' rfl rfl (by decide) ⟨.int ((2*i:Nat):Int),H,I1,⟨t,?_⟩,⟨rfl,rfl⟩,st',λb hb=>(hf b hb).1⟩⟩;congr 1;lia
 done:=by
  intro X hP hw hK hc i pins s σ H E I hf st hg;subst hP hw hK;obtain⟨f0,f1,f2,f3,f4,f5⟩:=hf it (by simp);exact wpAny_pyNext_range_end (I.ok.hd hc) st (by have:(n+1) / 2<=i:=hg;lia) λh' eb=>⟨rfl,I.turned (t':=s.toks) (λb o hb e=>eb b o hb e) f0 f1 f3 f4 f5⟩
 self:=λ_ _ _ _ _ st h=>wpAny_pyIter_rangeiter st h
section
variable{X:Cx}{tg a b c:Expr}{t:TA}{p pos:Pos}
def zC(t:TA):TI:=λσ H R=>t σ H λvs H1=>∃n:Nat,vs=[.int 0,.int (n:Nat),.int 2]/\n<=1000/\R (It2 n) H1
theorem pQ (hg:Gl X "range") (hm:X.mg "range" = none) (ha:QA X [a,b,c] t) (hn:bK a=true:=by rfl) (hn2:bK b=true:=by rfl) (hn3:bK c=true:=by rfl):QI X tg (.Call (.Name "range" p) [a,b,c] [] pos) (zC t):=by
 refine⟨λpins s σ H R I h=>?_⟩;have e3:Ot [c] X.env=[(false,eval c X.env)]:=aL hn3;have e2:Ot [b,c] X.env=[(false,eval b X.env),(false,eval c X.env)]:=by rw[aL hn2,e3]
 refine Call_ (dr I hg hm boot_range (Fd (thn (ha.out pos pins s σ H _ I h) λus s1 ⟨vs,H1,I1,r1,q1⟩=>?_) (aL hn) (by rw[e2];rfl)));obtain⟨n,e,hn1,q⟩:=q1;subst e;cases r1 with
 | cons r rr=>
  cases rr with
  | cons r' rr=>
   cases rr with
   | cons r'' rr=>
    cases rr;obtain⟨t1,rfl⟩:=r;obtain⟨t2,rfl⟩:=r';obtain⟨t3,rfl⟩:=r'';refine call_range_3 (by decide) ?_ (.inl (G8 (by decide +kernel)));refine wpAny_pyIter_range (JC ..) (zB hn1) ?_;have I2:Inv X pins σ H1 { s1 with heap:=s1.heap.push { cls:=.type "range",data:=.fields #[.int 0 t1,.int ((n:Nat):Int) t2,.int 2 t3] },toks:=s1.toks }:=I1.kept λb o e=>El _ e
    refine⟨_,[(s1.heap.push { cls:=.type "range",data:=.fields #[.int 0 t1,.int ((n:Nat):Int) t2,.int 2 t3] }).objs.size],_,_,H1,rfl,I2.kept (t':=s1.toks) λb o e=>El _ e,lB _ n,?_,λb hb=>?_,q⟩
    ·show IsRangeIter _ _ ((0:Int)+((0:Nat):Int)*2) ((((n+1) / 2:Nat):Int) - ((0:Nat):Int)) 2
     have g1:(0:Int)+((0:Nat):Int)*2=0:=by simp
     have g2:(((n+1) / 2:Nat):Int) - ((0:Nat):Int)=Fz 0 (n:Int) 2:=by rw[zA];simp
     rw[g1,g2];exact EH _ rfl
    ·have e:b=(s1.heap.push { cls:=.type "range",data:=.fields #[.int 0 t1,.int ((n:Nat):Int) t2,.int 2 t3] }).objs.size:=by simpa using hb
     subst e;exact I2.fpOk (Ed _) (I2.hok.fresh (Ed _))
end
theorem Cd{H:Hp}{R:It->Hp->Prop}(h:t σ H λvs H1=>∃n:Nat,vs=[.int 0,.int (n:Nat),.int 2]/\n<=1000/\R (It2 n) H1):zC t σ H R:=h
section
variable{X:Cx}{e o b:Expr}{to tb te:TE}{pos tpos:Pos}
def zD(K:Ec):V->V->Hp->VK->Prop:=λo i H Q=>∃a xs v,o=.ref a/\i=.int (-1)/\SqL K H a xs/\xs.getLast? = some v/\Q v H
theorem pR:Bf X (zD X.K):=by
 intro pins s σ H o i ov iv Q I ro ri h;obtain⟨a,xs,v,rfl,rfl,hq,hv,q⟩:=h;cases ro;obtain⟨t,rfl⟩:=ri;obtain⟨its,r,pl,hz⟩:=I.list hq;have hl:=r.length;have hn:=eC;have hne:xs≠[]:=λz=>by rw[z]at hv;cases hv
 have hpos:0<xs.length:=Fn.mpr hne;rw[List.getLast?_eq_getElem?]at hv;obtain⟨w,ew,rw'⟩:=r.get hv;have hj:((-1:Int)+(its.toArray.size:Int)).toNat=xs.length - 1:=by rw[Et];lia
 exact wpAny_getItem_list_neg pl.isList (by decide) (by rw[Et]<;>lia) (by decide) (by rw[hj];simpa using ew) ⟨v,H,I,rw',q⟩
theorem sh{K:Ec}(ho:QE X o to)(hi:QE X b tb)(he:QE X e te)(ha:∀ov iv new,augStore b ov iv new=(do OF [new,ov,iv] (setItem ov iv new);release [new,ov,iv] [];pure .next):=by intros;rfl)(hK:X.K=K:=by rfl):
  QS X (.AugAssign (.Subscript o b tpos) .Add e pos) (rf to tb te (zD K) (ipI λi j=>i+j) k6):=by subst hK;exact⟨ot ho.out hi.out pR he.out ui iJ ha⟩
end
end L2
namespace HT
open PySem PyProof.Rows L2
section
variable{prog:Program}{w:World}{A:Around}{E:Value->Shared->Prop}{s:Shared}
end
end HT
namespace L2
open PySem PySem.Spec PyProof.Rows
section
variable{X:Cx}{tg a b:Expr}{t:TA}{p pos:Pos}
end
section
variable{K:Ec}{σ:St}{H:Hp}{Q:VK}
end
noncomputable def rnd:Nat->List Nat->List dj×List Nat
 | f,a::b::r=>((f,f+a,f+a+b)::(rnd (f+a+b) r).1,(a+b)::(rnd (f+a+b) r).2)
 | _,[a]=>([],[a])
 | _,[]=>([],[])
theorem fi(f a b:Nat)(r:List Nat):rnd f (a::b::r)=((f,f+a,f+a+b)::(rnd (f+a+b) r).1,(a+b)::(rnd (f+a+b) r).2):=by rw[rnd]
theorem fj(f a:Nat):rnd f [a]=([],[a]):=by rw[rnd]
theorem du(f:Nat):rnd f []=([],[]):=by rw[rnd]
theorem gr(f:Nat)(ls:List Nat):(rnd f ls).2.length=(ls.length+1) / 2/\(rnd f ls).1.length+(rnd f ls).2.length=ls.length:=by
 induction f,ls using rnd.induct with
 | case1 f a b r ih=>rw[fi];simp only[EB];lia
 | case2 f a=>rw[fj];simp
 | case3 f=>rw[du];simp
theorem pS(f:Nat)(ls:List Nat):(rnd f ls).2.sum=ls.sum:=by
 induction f,ls using rnd.induct with
 | case1 f a b r ih=>rw[fi];simp only[Fv];lia
 | case2 f a=>rw[fj]
 | case3 f=>rw[du]
theorem zE(f:Nat)(ls:List Nat):∀s∈(rnd f ls).1,f<=s.1/\s.1<=s.2.1/\s.2.1<=s.2.2/\s.2.2<=f+ls.sum:=by
 induction f,ls using rnd.induct with
 | case1 f a b r ih=>
  rw[fi];intro s hs;rcases EA.mp hs with e|e
  ·rw[e];simp only[Fv];lia
  ·have:=ih s e
   simp only[Fv];lia
 | case2 f a=>rw[fj];intro s hs;cases hs
 | case3 f=>rw[du];intro s hs;cases hs
noncomputable def fk(ls:List Nat):List dj:=if h:1<ls.length then(rnd 0 ls).1++fk (rnd 0 ls).2 else[]
termination_by ls.length
decreasing_by have:=(gr 0 ls).1;lia
theorem gu{ls:List Nat}(h:1<ls.length):fk ls=(rnd 0 ls).1++fk (rnd 0 ls).2:=by rw[fk,dif_pos h]
theorem eS{ls:List Nat}(h:¬ 1<ls.length):fk ls=[]:=by rw[fk,dif_neg h]
theorem iq:∀(m:Nat) (ls:List Nat),ls.length<=m->(fk ls).length<=ls.length/\∀s∈fk ls,s.1<=s.2.1/\s.2.1<=s.2.2/\s.2.2<=ls.sum
 | 0,ls,h=>by rw[eS ⋯];exact⟨Eo _,λs hs=>nomatch hs⟩
 | m+1,ls,h=>by
  by_cases g:1<ls.length
  ·obtain⟨l1,l2⟩:=gr 0 ls
   obtain⟨h1,h2⟩:=iq m (rnd 0 ls).2 ⋯;rw[gu g];refine⟨by rw[En];lia,λs hs=>?_⟩;rcases ET.mp hs with e|e
   ·have:=zE 0 ls s e;lia
   ·have:=h2 s e
    rw[pS]at this;exact this
  ·rw[eS g];exact⟨Eo _,λs hs=>nomatch hs⟩
noncomputable def prs:Nat->List Nat->List (Nat×Nat)
 | f,a::r=>(f,f+a)::prs (f+a) r
 | _,[]=>[]
noncomputable def brk(rss:List (List Nat))(k:Nat):Bool:=lxt (rss.getD k []) (rss.getD (k - 1) [])
noncomputable def xY(xs:List Nat):List Nat:=xs.set (xs.length - 1) (xs.getLastD 0+1)
noncomputable def bJ(rss:List (List Nat)):Nat->List Nat
 | 0=>[]
 | m+1=>if 0<m/\brk rss m=false then xY (bJ rss m)else bJ rss m++[1]
theorem gv(xs:List Nat)(a:Nat):xY (xs++[a])=xs++[a+1]:=by
 unfold xY;rw[En,Fo,IC,List.getLastD_concat];simp
theorem gw(rss:List (List Nat))(m:Nat):bJ rss (m+1)≠[]:=by
 induction m with
 | zero=>rw[bJ,if_neg ⋯];simp
 | succ m ih=>
  rw[bJ];split
  ·unfold xY
   intro z;have:=congrArg Gq z;rw[Jx]at this;exact ih (FA.mp this)
  ·simp
theorem lC{xs:List Nat}(h:xs≠[]):∃ys a,xs=ys++[a]:=by
 rcases Hw xs with e|⟨ys,a,e⟩
 ·exact absurd e h
 ·exact⟨ys,a,by rw[e,JQ]⟩
theorem eT(rss:List (List Nat))(m:Nat):(bJ rss m).sum=m:=by
 induction m with
 | zero=>rfl
 | succ m ih=>
  rw[bJ];split
  ·rename_i h
   obtain⟨m',rfl⟩:∃m',m=m'+1:=⟨m - 1,by lia⟩
   obtain⟨ys,a,e⟩:=lC (gw rss m');rw[e,gv];rw[e]at ih;simp at ih ⊢;lia
  ·simp[ih]
theorem j5(rss:List (List Nat))(m:Nat):(bJ rss m).length<=m:=by
 induction m with
 | zero=>exact Ed _
 | succ m ih=>
  rw[bJ];split
  ·unfold xY;rw[Jx];lia
  ·rw[En,Fo];lia
theorem wF(os:List Nat)(h:i<os.length):kO (NV os) (some ((i:Nat):Int)) (some ((i+2:Nat):Int))=NV ((os.drop i).take 2):=by
 unfold kO;rw[HT.fb,HT.fb,aC,G5 (by lia:i<=os.length)];unfold NV;rw[IL,IM];by_cases g:i+2<=os.length
 ·rw[G5 g];congr 1;lia
 ·rw[Nat.min_eq_right ⋯,Ee (by rw[Ft,Ea];lia),Ee (by rw[Ft,Ea];lia)]
end L2
namespace L2
open PySem PySem.Spec PyProof.Rows PySem.W
noncomputable def Sat(N:Nat)(lt:Nat->Nat->Bool){α:Type}:KasT α->(α->Prop)->Prop
 | .ret a,R=>R a
 | .ask i j k,R=>i<N/\j<N/\Sat N lt (k (lt i j)) R
theorem Sat.mono{N:Nat}{lt:Nat->Nat->Bool}{α:Type}{R R':α->Prop}(hR:∀a,R a->R' a):∀(t:KasT α),Sat N lt t R->Sat N lt t R'
 | .ret _,h=>hR _ h
 | .ask i j k,h=>⟨h.1,h.2.1,Sat.mono hR (k (lt i j)) h.2.2⟩
theorem Sat.bind{N:Nat}{lt:Nat->Nat->Bool}{α β:Type}{R:α->Prop}{R':β->Prop}{f:α->KasT β}(hf:∀a,R a->Sat N lt (f a) R'):∀(t:KasT α),Sat N lt t R->Sat N lt (t.bind f) R'
 | .ret a,h=>hf a h
 | .ask i j k,h=>⟨h.1,h.2.1,Sat.bind hf (k (lt i j)) h.2.2⟩
theorem Sat.wp{N:Nat}{lt:Nat->Nat->Bool}{α:Type}{R:α->Prop}{I:Shared->Prop}{cmp:Nat->Nat->(Bool->Shared->Prop)->Shared->Prop}
  (hc:∀i j (C:Bool->Shared->Prop) s,i<N->j<N->I s->(∀s',I s'->C (lt i j) s')->cmp i j C s){Q:α->Shared->Prop} :
  ∀(t:KasT α) (s:Shared),Sat N lt t R->I s->(∀a s',R a->I s'->Q a s')->t.kasWp cmp Q s
 | .ret a,s,h,hi,hq=>hq a s h hi
 | .ask i j k,s,h,hi,hq=>hc i j _ s h.1 h.2.1 hi λs' hi'=>Sat.wp hc (k (lt i j)) s' h.2.2 hi' hq
structure Lt (lt:Nat->Nat->Bool):Prop where
 asym:∀i j,lt i j=true->lt j i=false
 tr:∀i j k,lt i j=false->lt j k=false->lt i k=false
def Ah(lt:Nat->Nat->Bool)(i j:Nat):Prop:=lt j i=false/\(lt i j=false->i<j)
theorem Ah.of_lt{lt:Nat->Nat->Bool}(H:Lt lt)(h:lt i j=true):Ah lt i j:=⟨H.asym i j h,λh'=>by rw[h]at h';cases h'⟩
theorem Ah.trans{lt:Nat->Nat->Bool}(H:Lt lt)(a:Ah lt i j)(b:Ah lt j k):Ah lt i k:=by
 refine⟨H.tr k j i b.1 a.1,λh=>?_⟩;have h1:lt i j=false:=H.tr i k j h b.1;have h2:lt j k=false:=H.tr j i k a.1 h;exact Ic (a.2 h1) (b.2 h2)
theorem lD{lt:Nat->Nat->Bool}(H:Lt lt)(h:lt i j=true)(h':lt k j=false):lt i k=true:=by
 cases e:lt i k with
 | true=>rfl
 | false=>rw[H.tr i k j e h']at h;cases h
theorem si{lt:Nat->Nat->Bool}(H:Lt lt)(h:lt i j=true)(h':lt i k=false):lt k j=true:=by
 cases e:lt k j with
 | true=>rfl
 | false=>rw[H.tr i k j h' e]at h;cases h
section
variable{N:Nat}{lt:Nat->Nat->Bool}
structure Pm (N:Nat) (p:Array Nat):Prop where
 sz:p.size=N
 bd:∀i,i<N->p.getD i 0<N
 inj:∀i j,i<N->j<N->p.getD i 0=p.getD j 0->i=j
theorem i6{p:Array Nat}(h:p.Perm (EX (Ej N))):Pm N p:=by
 have hp:p.toList.Perm (Ej N):=by simpa using IP.mp h
 have hs:p.size=N:=by rw[<-E7,hp.length_eq,E9]
 have hn:p.toList.Nodup:=hp.nodup_iff.mpr Lh;refine⟨hs,λi hi=>?_,λi j hi hj e=>?_⟩
 ·have hi':i<p.size:=by lia
  have:p[i]∈p.toList:=JZ.mpr (Array.getElem_mem hi');have h2:=hp.mem_iff.mp this;rw[show p.getD i 0=p[i]by simp[Ie,hi']];exact ER.mp h2
 ·have hi':i<p.size:=by lia
  have hj':j<p.size:=by lia
  rw[show p.getD i 0=p[i]by simp[Ie,hi'],show p.getD j 0=p[j]by simp[Ie,hj']]at e;have e':p.toList[i]'(by simpa using hi')=p.toList[j]'(by simpa using hj'):=by simpa using e
  have hq:=EW.mp hn;rcases FG i j with x|x|x
  ·exact absurd e' (hq i j _ _ x)
  ·exact x
  ·exact absurd e'.symm (hq j i _ _ x)
theorem cy{p:Array Nat}(hj:j<=p.size)(k:Nat):(kas_rev p i j).getD k 0=if i<=k/\k<j then p.getD (i+j - 1 - k) 0 else p.getD k 0:=by
 have h:=getElem?_mirror_all (i:=i) hj k;rw[Gg,Gg,Gg];show((mirror p i j ((j - i) / 2))[k]?).getD 0=_
 rw[h];split<;>rfl
theorem i7{p:Array Nat}{l:Nat}(hk:k<p.size)(hl:l<=k)(i:Nat):(bubble p k (k - l)).getD i 0=if i=l then p.getD k 0 else if l<i/\i<=k then p.getD (i - 1) 0 else p.getD i 0:=by
 have h:=getElem?_bubble hk (k - l) ⋯ i;have e:k - (k - l)=l:=by lia
 rw[e]at h;simp only[Gg];rw[h]
 repeat' split
 all_goals rfl
theorem fO{p:Array Nat}(i j:Nat)(h:p.Perm (EX (Ej N))):(kas_rev p i j).Perm (EX (Ej N)):=(mirror_perm _ _ _ _).trans h
theorem sj{p:Array Nat}(i j:Nat)(h:p.Perm (EX (Ej N))):(bubble p i j).Perm (EX (Ej N)):=(bubble_perm _ _ _).trans h
def Tl(N:Nat)(p:Array Nat)(m:Nat):Prop:=∀i,m<=i->i<N->p.getD i 0=i
theorem Pm.lo{p:Array Nat}(P:Pm N p)(T:Tl N p m)(hi:i<m)(hm:m<=N):p.getD i 0<m:=by
 rcases F5 (p.getD i 0) m with h|h
 ·exact h
 ·have h2:=T _ h (P.bd i ⋯)
  have:=P.inj _ _ (P.bd i ⋯) ⋯ h2;lia
def Up(lt:Nat->Nat->Bool)(p:Array Nat)(m:Nat):Prop:=∀i,0<i->i<m->Ah lt (p.getD (i - 1) 0) (p.getD i 0)
theorem Up.all(H:Lt lt){p:Array Nat}{m:Nat}(U:Up lt p m):∀d i,i+d+1<m->Ah lt (p.getD i 0) (p.getD (i+d+1) 0)
 | 0,i,h=>U (i+1) ⋯ h
 | d+1,i,h=>(Up.all H U d i ⋯).trans H (U (i+d+1+1) ⋯ h)
theorem Up.at(H:Lt lt){p:Array Nat}(U:Up lt p m)(h:i<j)(hj:j<m):Ah lt (p.getD i 0) (p.getD j 0):=by
 have:=U.all H (j - i - 1) i ⋯;rw[show i+(j - i - 1)+1=j by lia]at this;exact this
theorem lE{p:Array Nat}(hb:∀i,i<N->p.getD i 0<N):∀(f n:Nat),1<=n->n+f<=N->
  Sat N lt (kas_asc p f n) (λm=>n<=m/\m<=n+f/\(∀i,n<=i->i<m->lt (p.getD i 0) (p.getD (i - 1) 0)=false)/\(m<n+f->lt (p.getD m 0) (p.getD (m - 1) 0)=true))
 | 0,n,_,_=>⟨Ed _,Ed _,λi a b=>by lia,λh=>by lia⟩
 | f+1,n,h1,hN=>by
  refine⟨hb _ ⋯,hb _ ⋯,?_⟩;cases e:lt (p.getD n 0) (p.getD (n - 1) 0)with
  | true=>
   simp only[if_true];exact⟨Ed _,by lia,λi a b=>by lia,λ_=>e⟩
  | false=>
   simp only[Fq,if_false];refine Sat.mono (λm hm=>?_) _ (lE hb f (n+1) ⋯ ⋯);obtain⟨a,b,c,d⟩:=hm;refine⟨by lia,by lia,λi hi him=>?_,λh=>d ⋯⟩;rcases Kw hi with rfl|h
   ·exact e
   ·exact c i h him
structure Dn (N:Nat) (lt:Nat->Nat->Bool) (p:Array Nat) (n q:Nat):Prop where
 perm:p.Perm (EX (Ej N))
 tl:Tl N p n
 fall:∀i,0<i->i+(q+1)<n->Ah lt (p.getD i 0) (p.getD (i - 1) 0)
 like:∀i,n<=i+q->i<n->Ah lt (p.getD (i - 1) 0) (p.getD i 0)/\lt (p.getD (i - 1) 0) (p.getD i 0)=false
 join:∀i,0<i->i+(q+1)=n->lt (p.getD i 0) (p.getD (i - 1) 0)=true
 len:q+1<=n
 top:n<=N
theorem Dn.alike(H:Lt lt){p:Array Nat}{n q:Nat}(D:Dn N lt p n q):∀d i j,i+d=j->n<=i+q+1->j<n->lt (p.getD i 0) (p.getD j 0)=false/\lt (p.getD j 0) (p.getD i 0)=false
 | 0,i,j,e,h1,h2=>by
  have:i=j:=by lia
  subst this;cases e:lt (p.getD i 0) (p.getD i 0)with
  | false=>exact⟨rfl,rfl⟩
  | true=>have:=H.asym _ _ e;rw[e]at this;cases this
 | d+1,i,j,e,h1,h2=>by
  obtain⟨a,b⟩:=Dn.alike H D d i (j - 1) ⋯ h1 ⋯;obtain⟨⟨c,_⟩,c'⟩:=D.like j ⋯ h2;exact⟨H.tr _ _ _ a c',H.tr _ _ _ c b⟩
theorem Dn.turn(H:Lt lt){p:Array Nat}{q:Nat}(D:Dn N lt p n q):Tl N (kas_rev p (n - (q+1)) n) n/\(∀i,0<i->i<n->Ah lt ((kas_rev p (n - (q+1)) n).getD i 0) ((kas_rev p (n - (q+1)) n).getD (i - 1) 0))/\
  (∀x,lt x (p.getD (n - 1) 0)=true->lt x ((kas_rev p (n - (q+1)) n).getD (n - 1) 0)=true):=by
 have P:=i6 D.perm;have hn:n<=p.size:=by rw[P.sz];exact D.top
 have hl:=D.len;refine⟨λi h1 h2=>?_,λi h1 h2=>?_,λx hx=>?_⟩
 ·rw[cy hn,if_neg ⋯];exact D.tl i h1 h2
 ·rw[cy hn,cy hn]
  by_cases c1:n - (q+1)<=i
  ·rw[if_pos ⟨c1,h2⟩]
   by_cases c2:n - (q+1)<=i - 1
   ·rw[if_pos ⟨c2,by lia⟩]
    have:=(D.like (n - (q+1)+n - 1 - (i - 1)) ⋯ ⋯).1;rw[show n - (q+1)+n - 1 - (i - 1) - 1=n - (q+1)+n - 1 - i by lia]at this;exact this
   ·rw[if_neg ⋯]
    have ei:i=n - (q+1):=by lia
    rw[show n - (q+1)+n - 1 - i=n - 1 by lia];have j:=D.join i h1 ⋯;have k:=(D.alike H (n - 1 - i) i (n - 1) ⋯ ⋯ ⋯).1;exact Ah.of_lt H (si H j k)
  ·rw[if_neg ⋯,if_neg ⋯]
   exact D.fall i h1 ⋯
 ·rw[cy hn,if_pos ⋯,show n - (q+1)+n - 1 - (n - 1)=n - (q+1)by lia]
  have k:=(D.alike H (n - 1 - (n - (q+1))) (n - (q+1)) (n - 1) ⋯ ⋯ ⋯).1;exact lD H hx k
theorem fP(H:Lt lt):∀(f:Nat) (p:Array Nat) (n q:Nat),Dn N lt p n q->n+f<=N->
  Sat N lt (kas_desc f p n q) (λr=>Dn N lt r.1 r.2.1 r.2.2)
 | 0,p,n,q,D,_=>D
 | f+1,p,n,q,D,hN=>by
  have P:=i6 D.perm;have hl:=D.len;have hn:n<=p.size:=by rw[P.sz];exact D.top
  refine⟨P.bd _ ⋯,P.bd _ ⋯,?_⟩;cases e:lt (p.getD n 0) (p.getD (n - 1) 0)with
  | true=>
   simp only[if_true];have step:∀p':Array Nat,p'.Perm (EX (Ej N))->Tl N p' n->(∀i,0<i->i<n->Ah lt (p'.getD i 0) (p'.getD (i - 1) 0))->lt (p'.getD n 0) (p'.getD (n - 1) 0)=true->Dn N lt p' (n+1) 0:=
    λp' a b c d=>⟨a,λi h1 h2=>b i ⋯ h2,λi h1 h2=>c i h1 ⋯,λi h1 h2=>by lia,
     λi h1 h2=>by(have:i=n:=⋯);subst this;exact d,by lia,by lia⟩
   by_cases hq:q > 0
   ·rw[if_pos hq]
    obtain⟨t1,t2,t3⟩:=D.turn H;refine fP H f _ (n+1) 0 (step _ (fO _ _ D.perm) t1 t2 ?_) ⋯;refine t3 _ ?_;rw[cy hn,if_neg ⋯];exact e
   ·rw[if_neg hq]
    have hq0:q=0:=by lia
    subst hq0;refine fP H f _ (n+1) 0 (step _ D.perm D.tl (λi h1 h2=>?_) e) ⋯;rcases F5 (i+1) n with h|h
    ·exact D.fall i h1 h
    ·exact Ah.of_lt H (D.join i h1 ⋯)
  | false=>
   simp only[Fq,if_false];refine⟨P.bd _ ⋯,P.bd _ ⋯,?_⟩;cases e2:lt (p.getD (n - 1) 0) (p.getD n 0)with
   | true=>
    simp only[if_true];exact D
   | false=>
    simp only[Fq,if_false];refine fP H f p (n+1) (q+1) ⟨D.perm,λi h1 h2=>D.tl i ⋯ h2,λi h1 h2=>D.fall i h1 ⋯,λi h1 h2=>?_,λi h1 h2=>D.join i h1 ⋯,by lia,by lia⟩ ⋯;rcases F5 i n with h|h
    ·exact D.like i ⋯ h
    ·have:i=n:=by lia
     subst this;refine⟨⟨e,λ_=>?_⟩,e2⟩;rw[D.tl i (Ed _) ⋯];exact P.lo D.tl ⋯ D.top
structure Rn (N:Nat) (lt:Nat->Nat->Bool) (p:Array Nat) (m:Nat):Prop where
 perm:p.Perm (EX (Ej N))
 tl:Tl N p m
 up:Up lt p m
 top:m<=N
theorem Rn.longer(H:Lt lt){p:Array Nat}(R:Rn N lt p n)(h1:1<=n)(h:n<=m)(hm:m<=N)(ha:∀i,n<=i->i<m->lt (p.getD i 0) (p.getD (i - 1) 0)=false):Rn N lt p m:=by
 have P:=i6 R.perm;refine⟨R.perm,λi a b=>R.tl i ⋯ b,λi a b=>?_,hm⟩;rcases F5 i n with c|c
 ·exact R.up i a c
 ·refine⟨ha i c b,λ_=>?_⟩
  rw[R.tl i c ⋯];exact P.lo (λj x y=>R.tl j ⋯ y) ⋯ ⋯
theorem nS(H:Lt lt){p:Array Nat}(hp:p.Perm (EX (Ej N)))(T:Tl N p n)(hn:n<=N)(F:∀i,0<i->i<n->Ah lt (p.getD i 0) (p.getD (i - 1) 0)):Rn N lt (kas_rev p 0 n) n:=by
 have P:=i6 hp;have hs:n<=p.size:=by rw[P.sz];exact hn
 refine⟨fO _ _ hp,λi a b=>?_,λi a b=>?_,hn⟩
 ·rw[cy hs,if_neg ⋯];exact T i a b
 ·rw[cy hs,cy hs,if_pos ⋯,if_pos ⋯]
  have:=F (0+n - 1 - (i - 1)) ⋯ ⋯;rw[show 0+n - 1 - (i - 1) - 1=0+n - 1 - i by lia]at this;exact this
theorem j6(H:Lt lt){p:Array Nat}(h1:1<=n)(hp:p.Perm (EX (Ej N)))(T:Tl N p n)(hn:n<=N)(F:∀i,0<i->i<n->Ah lt (p.getD i 0) (p.getD (i - 1) 0)):
  Sat N lt (kas_tail3 n N p) (λr=>1<=r.1/\Rn N lt r.2 r.1):=by
 have R:=nS H hp T hn F;refine Sat.bind (λm hm=>?_) _ (lE (i6 R.perm).bd (N - n) n h1 ⋯);exact⟨by show 1<=m;lia,R.longer H h1 hm.1 ⋯ hm.2.2.1⟩
theorem fA(H:Lt lt){p:Array Nat}(D:Dn N lt p (n+1) 0):Sat N lt (kas_descPart n N p) (λr=>1<=r.1/\Rn N lt r.2 r.1):=by
 have:=D.top;refine Sat.bind (λr D'=>?_) _ (fP H (N - (n+1)) p (n+1) 0 D ⋯);have hl:=D'.len;by_cases hq:r.2.2 > 0
 ·rw[if_pos hq]
  obtain⟨t1,t2,_⟩:=D'.turn H;exact j6 H ⋯ (fO _ _ D'.perm) t1 D'.top t2
 ·rw[if_neg hq]
  refine j6 H ⋯ D'.perm D'.tl D'.top λi h1 h2=>?_
  rcases F5 (i+(r.2.2+1)) r.2.1 with h|h
  ·exact D'.fall i h1 h
  ·exact Ah.of_lt H (D'.join i h1 ⋯)
theorem bt(i:Nat)(h:i<N):(EX (Ej N)).getD i 0=i:=by
 simp[Ie,h]
theorem pT(H:Lt lt)(h1:1<=N):Sat N lt (kas_count N (EX (Ej N))) (λr=>1<=r.1/\Rn N lt r.2 r.1):=by
 have hp:(EX (Ej N)).Perm (EX (Ej N)):=N9 _;have P:=i6 hp;have R1:Rn N lt (EX (Ej N)) 1:=⟨hp,λi a b=>bt i b,λi a b=>by lia,h1⟩;refine Sat.bind (λn hn=>?_) _ (lE P.bd (N - 1) 1 (Ed _) ⋯);obtain⟨a,b,c,d⟩:=hn;have R:=R1.longer H (Ed _) a ⋯ c;by_cases e:n=N
 ·rw[if_pos (by simp[e])];exact⟨a,R⟩
 ·rw[if_neg (by simp[e])]
  have dd:=d ⋯;rw[bt _ ⋯,bt _ ⋯]at dd;by_cases h:n > 1
  ·rw[if_pos h]
   refine⟨P.bd _ ⋯,P.bd _ ⋯,?_⟩;rw[bt _ ⋯,bt _ ⋯];cases e2:lt 0 (n - 1)with
   | true=>
    simp only[if_true];exact⟨a,R⟩
   | false=>
    simp only[Fq,if_false];have hs:n<=(EX (Ej N)).size:=by simp;lia
    have le:∀i j,i<j->j<n->lt j i=false:=λi j x y=>by
     have:=(R.up.at H x y).1
     rwa [bt _ ⋯,bt _ ⋯]at this
    have ge:∀i j,i<j->j<n->lt i j=false:=λi j x y=>by
     have p1:lt i 0=false:=by
      rcases ID i with rfl|q
      ·cases e5:lt 0 0 with
       | false=>rfl
       | true=>have:=H.asym _ _ e5;rw[e5]at this;cases this
      ·exact le 0 i q ⋯
     have p2:lt (n - 1) j=false:=by
      rcases F5 j (n - 1)with q|q
      ·exact le j (n - 1) q ⋯
      ·have:j=n - 1:=by lia
       subst this;cases e5:lt (n - 1) (n - 1)with
       | false=>rfl
       | true=>have:=H.asym _ _ e5;rw[e5]at this;cases this
     exact H.tr _ _ _ p1 (H.tr _ _ _ e2 p2)
    have g:∀i,i<N->(kas_rev (EX (Ej N)) 0 n).getD i 0=if i<n then n - 1 - i else i:=λi hi=>by
     rw[cy hs];by_cases q:i<n
     ·rw[if_pos ⋯,if_pos q,bt _ ⋯];lia
     ·rw[if_neg ⋯,if_neg q,bt _ hi]
    refine fA H ⟨fO _ _ hp,λi x y=>?_,λi x y=>?_,λi x y=>by lia,λi x y=>?_,by lia,by lia⟩
    ·rw[g i y,if_neg ⋯]
    ·rw[g i ⋯,g (i - 1) ⋯,if_pos ⋯,if_pos ⋯]
     exact⟨le _ _ ⋯ ⋯,λ_=>by lia⟩
    ·have ei:i=n:=by lia
     subst ei;rw[g i ⋯,g (i - 1) ⋯,if_neg ⋯,if_pos ⋯,show i - 1 - (i - 1)=0 by lia];exact lD H dd e2
  ·rw[if_neg h]
   have:n=1:=by lia
   subst this;refine fA H ⟨hp,λi x y=>bt i y,λi x y=>by lia,λi x y=>by lia,λi x y=>?_,by lia,by lia⟩;have:i=1:=by lia
   subst this;rw[bt _ ⋯,bt _ ⋯];exact dd
theorem gx(H:Lt lt){p:Array Nat}{k:Nat}(R:Rn N lt p k)(hk:k<N):∀(f l r:Nat),l<=r->r<=k->r - l<=f->(∀i,i<l->lt k (p.getD i 0)=false)->(∀i,r<=i->i<k->lt k (p.getD i 0)=true)->
  Sat N lt (kas_place p k f l r) (λm=>m<=k/\(∀i,i<m->lt k (p.getD i 0)=false)/\(∀i,m<=i->i<k->lt k (p.getD i 0)=true))
 | 0,l,r,h1,h2,h3,a,b=>⟨by lia,a,λi x y=>b i ⋯ y⟩
 | f+1,l,r,h1,h2,h3,a,b=>by
  have P:=i6 R.perm;unfold kas_place;by_cases h:l>=r
  ·rw[if_pos h]
   exact⟨by lia,a,λi x y=>b i ⋯ y⟩
  ·rw[if_neg h]
   refine⟨P.bd _ ⋯,P.bd _ ⋯,?_⟩;have ek:p.getD k 0=k:=R.tl k (Ed _) hk;rw[ek];cases e:lt k (p.getD ((l+r) / 2) 0)with
   | true=>
    simp only[if_true];refine gx H R hk f l ((l+r) / 2) ⋯ ⋯ ⋯ a λi x y=>?_
    rcases Kw x with rfl|x
    ·exact e
    ·exact lD H e (R.up.at H x y).1
   | false=>
    simp only[Fq,if_false];refine gx H R hk f ((l+r) / 2+1) r ⋯ h2 ⋯ (λi x=>?_) b;rcases F5 i ((l+r) / 2)with y|y
    ·exact H.tr _ _ _ e (R.up.at H y ⋯).1
    ·have:i=(l+r) / 2:=by lia
     subst this;exact e
theorem Rn.put(H:Lt lt){p:Array Nat}(R:Rn N lt p k)(hk:k<N)(hm:m<=k)(a:∀i,i<m->lt k (p.getD i 0)=false)(b:∀i,m<=i->i<k->lt k (p.getD i 0)=true):Rn N lt (bubble p k (k - m)) (k+1):=by
 have P:=i6 R.perm;have hs:k<p.size:=by rw[P.sz];exact hk
 have ek:p.getD k 0=k:=R.tl k (Ed _) hk;refine⟨sj _ _ R.perm,λi x y=>?_,λi x y=>?_,hk⟩
 ·rw[i7 hs hm,if_neg ⋯,if_neg ⋯];exact R.tl i ⋯ y
 ·rw[i7 hs hm,i7 hs hm,ek]
  rcases F5 i m with c|c
  ·rw[if_neg ⋯,if_neg ⋯,if_neg ⋯,if_neg ⋯]
   exact R.up i x ⋯
  ·by_cases c1:i=m
   ·rw[if_neg ⋯,if_neg ⋯,if_pos c1]
    exact⟨a _ ⋯,λ_=>P.lo R.tl ⋯ ⋯⟩
   ·by_cases c2:i=m+1
    ·rw[if_pos ⋯,if_neg ⋯,if_pos ⋯]
     exact Ah.of_lt H (b _ ⋯ ⋯)
    ·rw[if_neg ⋯,if_pos ⋯,if_neg ⋯,if_pos ⋯]
     exact R.up (i - 1) ⋯ ⋯
theorem pU(H:Lt lt):∀(f:Nat) (p:Array Nat) (k:Nat),Rn N lt p k->k+f=N->Sat N lt (kas_bin f p k) (λr=>Rn N lt r N)
 | 0,p,k,R,h=>by
  have:k=N:=by lia
  subst this;exact R
 | f+1,p,k,R,h=>by
  refine Sat.bind (λm hm=>?_) _ (gx H R ⋯ k 0 k (Eo _) (Ed _) ⋯ (λi x=>by lia) λi x y=>by lia);exact pU H f _ (k+1) (R.put H ⋯ hm.1 hm.2.1 hm.2.2) ⋯
theorem sk(H:Lt lt)(h1:1<=N):Sat N lt (kas_sort N) (λr=>Rn N lt r N):=by
 refine Sat.bind (λr hr=>?_) _ (pT H h1);obtain⟨a,R⟩:=hr;have ht:=R.top;by_cases h:r.1<N
 ·rw[if_pos h,Nat.max_eq_left a]
  exact pU H _ _ _ R ⋯
 ·rw[if_neg h]
  have:r.1=N:=by lia
  rw[this]at R;exact R
theorem Rn.list(H:Lt lt){p:Array Nat}(R:Rn N lt p N):p.toList.Perm (Ej N)/\p.toList.Pairwise (Ah lt):=by
 have P:=i6 R.perm;refine⟨by simpa using IP.mp R.perm,?_⟩;rw[EW];intro i j hi hj hij;have hi':i<p.size:=by simpa using hi
 have hj':j<p.size:=by simpa using hj
 have:=R.up.at H hij (by rw[<-P.sz];exact hj');rw[show p.getD i 0=p[i]by simp[Ie,hi'],show p.getD j 0=p[j]by simp[Ie,hj']]at this;simpa using this
end
end L2
namespace HT
open PySem PyProof.Rows PySem.W L2
theorem wG{prog:Program}{w:World}{A:Around}{s:Shared}{κ:SortKind}{lt:Nat->Nat->Bool}{ks vs:List Value}{I:Shared->Prop}(hl:ks.length=vs.length)(h2:2<=vs.length)(H:Lt lt)(hI:I s)
  (hc:∀i j s',i<vs.length->j<vs.length->I s'->wpAny (model prog w) A (keyLt' κ (ks.getD i Fb) (ks.getD j Fb)) (λb s''=>b=lt i j/\I s'') (λ_ _=>False) s')
  (h64:vs.length<64:=by first|lia|(rw[F9];lia)) :
  wpAny (model prog w) A ((sortRuns').run (LY κ (ks.toArray.zip vs.toArray) #[] 7 none))
   (λr s'=>∃p:Array Nat,arrOf r.2=p.map (kas_item (ks.toArray.zip vs.toArray))/\failedOf r.2=none/\p.size=vs.length/\I s'/\p.toList.Perm (Ej vs.length)/\p.toList.Pairwise (Ah lt)) E s:=by
 have ask:=Sat.wp (I:=I) (cmp:=kas_ask prog w A κ ks) (N:=vs.length) (lt:=lt) (Q:=λp s'=>I s'/\p.toList.Perm (Ej vs.length)/\p.toList.Pairwise (Ah lt))
  (λi j C s' hi hj es hC=>Oy (hc i j s' hi hj es) (λb s'' hb=>by obtain⟨rfl,hb2⟩:=hb;exact hC _ hb2) λ_ _ z=>z) _ _ (sk H ⋯) hI (λp s' R es=>⟨es,R.list H⟩)
 refine Oy (kat_run (ks:=ks) (vs:=vs) (Q:=λst' s'=>∃p:Array Nat,arrOf st'=p.map (kas_item (ks.toArray.zip vs.toArray))/\failedOf st'=none/\p.size=vs.length/\I s'/\p.toList.Perm (Ej vs.length)/\p.toList.Pairwise (Ah lt)) hl ⋯ h64
   (λp st' s' a1 a2 a3 a4=>⟨p,a2,a3,a1,a4⟩) ask) (λr s' hr=>hr) λ_ _ e=>e
section
variable{prog:Program}{w:World}{A:Around}{E:Value->Shared->Prop}{s:Shared}
theorem sq{R:Nat->Nat->Prop}(n:Nat)(h:n<2):(Ej n).Pairwise R:=by
 match n,h with
 | 0,_=>exact .nil
 | 1,_=>exact GA _ _
theorem i8 {vs:List Value}{κ:SortKind}{lt:Nat->Nat->Bool}{P:NT->Shared->Prop}(ho:s.heap.get? a=some (OG "list" vs.toArray n)) (h64:vs.length<64) (H:Lt lt)
  (hk:∀h' (Q:SortKind->Shared->Prop),2<=vs.length->(∀b o,b≠a->s.heap.get? b=some o->h'.get? b=some o)->Q κ { s with heap:=h' }->wpAny (model prog w) A (keyKind' vs.toArray) Q (λ_ _=>False) { s with heap:=h' })
  (hc:∀h' i j (Q:Bool->Shared->Prop),i<vs.length->j<vs.length->(∀b o,b≠a->s.heap.get? b=some o->h'.get? b=some o)->Q (lt i j) { s with heap:=h' }->
   wpAny (model prog w) A (keyLt' κ (vs.getD i Fb) (vs.getD j Fb)) Q (λ_ _=>False) { s with heap:=h' })
  (h:∀p:List Nat,p.Perm (Ej vs.length)->p.Pairwise (Ah lt)->P (.done (.ret .none)) { s with heap:=sortedHeap s.heap a vs (EX (p.map λi=>vs.getD i Fb)) }) :
  wpAny (model prog w) A (Builtin.«list.sort» ⟨[.ref a],[]⟩) P E s:=by
 rw[list_sort_plain];have ha:a<s.heap.objs.size:=Ew ho;refine On (listItems_at ho rfl ?_);refine On (listUpdate_at ho rfl ?_ (by rw[Et,Os];lia) (Eo _));obtain⟨e1,ho1⟩:∃e1,(s.heap.update a (Fc λ_=>(#[]:Array Value))).get? a=some (OG "list" #[] e1):=⟨_,get?_update_seq ho (λ_=>#[])⟩
 refine On (seqEpoch_at ho1 rfl ?_);refine On (wpAny_newTuple ?_ (by show vs.length<=_;rw[Os];lia));refine On (wpAny_newList ?_ (Eo _));refine OC ?_;have ho6:(((s.heap.update a (Fc λ_=>(#[]:Array Value))).push (OG "tuple" vs.toArray 0)).push (OG "list" #[] 0)).get? a=some (OG "list" #[] e1):=by
  rw[Gn _ _ _ (by rw[size_push',GT];exact EK (Gm ha)),Gn _ _ _ (by rw[GT];exact EK ha)];exact ho1
 have kp:∀b o,b≠a->s.heap.get? b=some o->(((s.heap.update a (Fc λ_=>(#[]:Array Value))).push (OG "tuple" vs.toArray 0)).push (OG "list" #[] 0)).get? b=some o:=λb o hb e=>by
  have hlt:=Ew e;rw[Gn _ _ _ (by rw[size_push',GT];exact EK (Gm hlt)),Gn _ _ _ (by rw[GT];exact EK hlt),Ke _ _ _ _ hb];exact e
 show wpAny (model prog w) A _ P E { s with heap:=((s.heap.update a (Fc λ_=>(#[]:Array Value))).push (OG "tuple" vs.toArray 0)).push (OG "list" #[] 0) }
 dsimp only;have hsz:vs.toArray.size=vs.length:=by simp
 by_cases h2:vs.toArray.size<2
 ·rw[if_pos h2,if_pos h2]
  refine On (Oq ?_);rw[StateT.run_pure];refine On (Oq ?_);dsimp only;refine On (seqEpoch_at ho6 rfl ?_);refine On (listUpdate_at ho6 rfl ?_ (Eo _) (by rw[Array.size_map];show(pairsOf vs).size<=_;rw[pairsOf_size,Os];lia));simp only[bne_self_eq_false,Fq,if_false];have:=h (Ej vs.length) (GN _) (sq _ ⋯);have eo:(arrOf (LY general' (vs.toArray.zip vs.toArray) #[] 7 none)).map (·.2)=EX ((Ej vs.length).map λi=>vs.getD i Fb):=by
   have e:=kas_range (vs.toArray.zip vs.toArray);rw[show(vs.toArray.zip vs.toArray).size=vs.length by simp]at e;have:=kat_snds (st:=LY general' (vs.toArray.zip vs.toArray) #[] 7 none) (ks:=vs) (vs:=vs) rfl e.symm;simpa using this
  rw[<-eo]at this;exact Oq this
 ·rw[if_neg h2,if_neg h2]
  refine On (Oy (hk _ (λκ' s'=>κ'=κ/\s'={ s with heap:=((s.heap.update a (Fc λ_=>(#[]:Array Value))).push (OG "tuple" vs.toArray 0)).push (OG "list" #[] 0) }) ⋯ kp ⟨rfl,rfl⟩) (λκ' s' hh=>?_) λ_ _ x=>x.elim);obtain⟨rfl,rfl⟩:=hh;refine On (Oy (wG (ks:=vs) (I:=λs'=>s'={ s with heap:=((s.heap.update a (Fc λ_=>(#[]:Array Value))).push (OG "tuple" vs.toArray 0)).push (OG "list" #[] 0) }) rfl ⋯ H rfl (λi j s' hi hj es=>by subst es;exact hc _ i j _ hi hj kp ⟨rfl,rfl⟩)) ?_ λ_ _ e=>e);rintro⟨⟨⟩,st'⟩ s' ⟨p,har,hf,hp,rfl,q1,q2⟩;dsimp only;have hout:=kat_snds rfl har;rw[hout];refine On (seqEpoch_at ho6 rfl ?_);refine On (listUpdate_at ho6 rfl ?_ (Eo _) (by rw[Et,Ea,E7,hp,Os];lia));rw[hf];simp only[bne_self_eq_false,Fq,if_false];exact Oq (h p.toList q1 q2)
theorem fm{vs:List Value}{κ:SortKind}{lt:Nat->Nat->Bool}{Q:Value->Shared->Prop}(hl:s.heap.IsList l vs.toArray)(h64:vs.length<64)(H:Lt lt)
  (hk:∀h' (Q:SortKind->Shared->Prop),2<=vs.length->(∀b o,s.heap.get? b=some o->h'.get? b=some o)->Q κ { s with heap:=h' }->wpAny (model prog w) A.in1.in1 (keyKind' vs.toArray) Q (λ_ _=>False) { s with heap:=h' })
  (hc:∀h' i j (Q:Bool->Shared->Prop),i<vs.length->j<vs.length->(∀b o,s.heap.get? b=some o->h'.get? b=some o)->Q (lt i j) { s with heap:=h' }->
   wpAny (model prog w) A.in1.in1 (keyLt' κ (vs.getD i Fb) (vs.getD j Fb)) Q (λ_ _=>False) { s with heap:=h' })
  (h:∀p:List Nat,p.Perm (Ej vs.length)->p.Pairwise (Ah lt)->Q (.ref (s.heap.objs.size+1)) { s with heap:=sortedAll s.heap vs (EX (p.map λi=>vs.getD i Fb)) }) :
  wpAny (model prog w) A (call (.builtin "sorted") [.ref l]) Q E s:=by
 refine Calls.call_function_entry kind_sorted plain_sorted entry_sorted (args_sorted1 _) ?_;unfold Builtin.«sorted»;refine On (m:=checkCount "sorted" 1 1 _) (Oq ?_);refine On (collect_list hl ?_ (by rw[Os];lia));refine On (wpAny_newList ?_ (by rw[Os];lia));have hsz:((s.heap.push (OG "list" #[] 0)).update s.heap.objs.size (Fc (·++vs.toArray))).objs.size=s.heap.objs.size+1:=by
  rw[GT,size_push']
 have hoL:(((s.heap.push (OG "list" #[] 0)).update s.heap.objs.size (Fc (·++vs.toArray))).push (OG "list" vs.toArray 0)).get? (s.heap.objs.size+1)=some (OG "list" vs.toArray 0):=by
  rw[<-hsz];exact EH _ rfl
 have keep:∀b o,s.heap.get? b=some o->(((s.heap.push (OG "list" #[] 0)).update s.heap.objs.size (Fc (·++vs.toArray))).push (OG "list" vs.toArray 0)).get? b=some o:=λb o q=>by
  have hlt:b<s.heap.objs.size:=Ew q;rw[Gn _ _ _ (by rw[hsz];exact EK (Gm hlt)),Ke _ _ _ _ (EK hlt),Gn _ _ _ (EK hlt)];exact q
 have ne:∀b o,s.heap.get? b=some o->b≠s.heap.objs.size+1:=λb o q=>EK (Gm (Ew q))
 show wpAny _ _ _ _ _ { s with heap:=((s.heap.push (OG "list" #[] 0)).update s.heap.objs.size (Fc (·++vs.toArray))).push (OG "list" vs.toArray 0) }
 rw[hsz];refine On (OC (wpAny_call_entry slot_list_sort ⟨_,hoL,rfl⟩ entry_list_sort (i8 hoL h64 H
  (λh' Q' h2 k q=>hk h' Q' h2 (λb o e=>k b o (ne b o e) (keep b o e)) q) (λh' i j Q' hi hj k q=>hc h' i j Q' hi hj (λb o e=>k b o (ne b o e) (keep b o e)) q) λp a1 a2=>⟨_,rfl,?_⟩) (args_list_sort _)))
 exact Oq ⟨_,rfl,h p a1 a2⟩
theorem i9{fin:Bool}{Q:Bool->Shared->Prop}:∀{xs ys:List Value}{ns ms:List Int},Ox xs ns->Ox ys ms->∀(i:Nat) (b:Bool),fin=decide (ns.length<ms.length)->Q (bG ns ms) s->
  KatLex prog w A b fin Q (xs.zip ys) i s
 | _,_,_,_,.nil,.nil,i,b,e,h=>by subst e;exact h
 | _,_,_,_,.nil,.cons m u r,i,b,e,h=>by
  subst e;rw[IV];refine kat_nil ?_;simpa using(show Q true s from h)
 | _,_,_,_,.cons n t r,.nil,i,b,e,h=>by
  subst e;rw[Iw];refine kat_nil ?_;simpa using(show Q false s from h)
 | _,_,_,_,.cons n t r,.cons m u r',i,b,e,h=>by
  rw[FL];refine kat_cons (wpAny_eqBool_int ?_);rw[aX]at h;by_cases hn:n=m
  ·rw[if_pos hn]at h
   rw[show(n == m)=true by simp[hn]];exact kat_yes (i9 r r' (i+1) b (by rw[e];simp) h)
  ·rw[if_neg hn]at h
   rw[show(n == m)=false by simp[hn]];refine kat_no ?_;cases(b && i == 0)with
   | true=>exact oneLt_int h
   | false=>exact kat_one _ _ (lt_int h)
theorem sr{x y:Addr}{its its2:Array Value}{ns:List Int}{b:Bool}{Q:Bool->Shared->Prop}(hx:IsTup s.heap x its)(hy:IsTup s.heap y its2)(hi:Ox its.toList ns)(hj:Ox its2.toList ms)(h:Q (bG ns ms) s):
  wpAny (model prog w) A (keyLt' (tuples' b) (.ref x) (.ref y)) Q E s:=by
 obtain⟨o,ho,hc,n,hd⟩:=id hx;obtain⟨o2,ho2,hc2,n2,hd2⟩:=id hy;refine kat_lt ho hd ho2 hd2 (i9 hi hj 0 b ?_ h);rw[<-hi.length,<-hj.length];simp
theorem wH{x y:Addr}{its its2:Array Value}{ns:List Int}{Q:Bool->Shared->Prop}(hu:A.units<cLine)(hx:IsTup s.heap x its)(hy:IsTup s.heap y its2)(hi:Ox its.toList ns)(hj:Ox its2.toList ms)(h:Q (bG ns ms) s):
  wpAny (model prog w) A (keyLt' oneType' (.ref x) (.ref y)) Q E s:=by
 obtain⟨⟨cls,dd,data,sl⟩,ho,hc,n,hd⟩:=id hx;obtain⟨⟨cls2,dd2,data2,sl2⟩,ho2,hc2,n2,hd2⟩:=id hy;simp only at hc hd hc2 hd2;subst hc hd hc2 hd2;rw[keyLt'_oneType,oneLt'_eq];simp only[if_true];refine On (wpAny_cRoomFor hu ?_);refine On (wpAny_callSpecialIfBound?_slot (T:="tuple") ⟨_,ho,rfl⟩ JR (OK JR ⟨_,ho,rfl⟩ PySem.F.entry_tuple_lt (PySem.F.args_tuple_lt_2 _ _) (iI x y its its2 n n2 dd dd2 sl sl2 ns ms hi hj) ⟨ho,ho2,?_⟩));exact Oz h
theorem su{vs:List Value}{Q:SortKind->Shared->Prop}(h2:2<=vs.length)(ht:∀v∈vs,∃a,v=.ref a/\IsTup s.heap a #[])(h:Q oneType' s):
  wpAny (model prog w) A (keyKind' vs.toArray) Q E s:=by
 obtain⟨v₁,rest,rfl⟩:∃v₁ rest,vs=v₁::rest:=by
  match vs,h2 with
  | v₁::rest,_=>exact⟨v₁,rest,rfl⟩
 rw[kat_kind_eq,KY,map_eq_pure_bind];refine On (On (kas_mapM (r:=none) _ (λv hv Q' hq=>?_) (Oq ?_)))
 ·obtain⟨a,rfl,o,ho,hc,n,hd⟩:=ht v hv
  rw[kas_first_eq];refine On (Looks.here (show Looks (model prog w) s.heap (typeOf (.ref a)) o.cls from(Looks.ld ho).andThen .now) ?_);rw[hc,if_neg (by first|decide|simp)];refine On (listItems_at ho hd (Oq ?_));exact hq
 ·rw[if_neg (by simp),if_neg (by simp)]
  rw[oneTypeOnly'_eq,KY,map_eq_pure_bind];refine On (On (On (kas_mapM (r:=FY "tuple") _ (λv hv Q' hq=>?_) (Oq ?_))))
  ·obtain⟨a,rfl,o,ho,hc,n,hd⟩:=ht v hv
   refine Looks.here (show Looks (model prog w) s.heap (typeOf (.ref a)) (FY "tuple")from ?_) hq;rw[<-hc];exact(Looks.ld ho).andThen .now
  ·have hall:((Lj (λ_=>FY "tuple") (v₁::rest)).toArray.all λx=>x == FY "tuple")=true:=by
    simp only[List.all_toArray,List.all_map,Gu];intro _ _;rfl
   have h0:(Lj (λ_=>FY "tuple") (v₁::rest)).toArray[0]? = some (FY "tuple"):=by simp
   rw[h0];simp only[hall,if_true];exact Oq (Oq h)
theorem pV:∀{vs:List Value}{rss:List (List Int)},vs.length=rss.length->(∀(i:Nat) v r,vs[i]? = some v->rss[i]? = some r->∃a its,v=.ref a/\IsTup s.heap a its/\Ox its.toList r)->(∀r∈rss,r≠[])->
  ∃fs,KatTups s.heap vs fs/\fs.length=vs.length/\∀f∈fs,∃n t,f=GP n t
 | [],[],_,_,_=>⟨[],.nil,rfl,λ_ h=>nomatch h⟩
 | v::vs,r::rss,hl,h,hne=>by
  obtain⟨fs,k1,k2,k3⟩:=pV (vs:=vs) (rss:=rss) (by simpa using hl) (λi v r e1 e2=>h (i+1) v r (by simpa using e1) (by simpa using e2)) λr hr=>hne r (.tail _ hr)
  obtain⟨a,its,rfl,⟨o,ho,hc,n,hd⟩,hi⟩:=h 0 v r rfl rfl;have hr:=hne r (.head _);obtain⟨its'⟩:=its;cases hi with
  | nil=>exact absurd rfl hr
  | cons m t hi'=>exact⟨_::fs,KatTups.cons (f:=.int m t) ho hc hd (by simp) k1,by simp[k2],λf hf=>(EA.mp hf).elim (λe=>⟨m,t,e⟩) (k3 f)⟩
theorem pW{vs:List Value}{rss:List (List Int)}{Q:SortKind->Shared->Prop}(h2:2<=vs.length)(hl:vs.length=rss.length)(ht:∀(i:Nat) v r,vs[i]? = some v->rss[i]? = some r->∃a its,v=.ref a/\IsTup s.heap a its/\Ox its.toList r)(hne:∀r∈rss,r≠[])
  (h:Q (tuples' true) s):wpAny (model prog w) A (keyKind' vs.toArray) Q E s:=by
 obtain⟨fs,k1,k2,k3⟩:=pV hl ht hne;refine kat_kind (T:=FY "int") k1 ⋯ (λv hv=>?_) rfl h;obtain⟨n,t,rfl⟩:=k3 v hv;exact Looks.of_pure rfl
end
theorem ir(a:List Int):∀b,bG a b=true->bG b a=false:=by
 induction a with
 | nil=>intro b h;cases b<;>first|rfl|cases h
 | cons x xs ih=>
  intro b h;cases b with
  | nil=>cases h
  | cons y ys=>
   rw[aX]at h ⊢;by_cases e:x=y
   ·rw[if_pos e]at h;rw[if_pos e.symm];exact ih ys h
   ·rw[if_neg e]at h;rw[if_neg (E2 e)]
    have:=of_decide_eq_true h;exact decide_eq_false ⋯
theorem j7(a:List Int):∀b c,bG a b=false->bG b c=false->bG a c=false:=by
 induction a with
 | nil=>
  intro b c h1 h2;cases b with
  | nil=>exact h2
  | cons y ys=>cases h1
 | cons x xs ih=>
  intro b c h1 h2;cases c with
  | nil=>rfl
  | cons z zs=>
   cases b with
   | nil=>cases h2
   | cons y ys=>
    rw[aX]at h1 h2 ⊢;by_cases e:x=y
    ·subst e
     rw[if_pos rfl]at h1;by_cases e2:x=z
     ·subst e2;rw[if_pos rfl]at h2 ⊢;exact ih ys zs h1 h2
     ·rw[if_neg e2]at h2 ⊢;exact h2
    ·rw[if_neg e]at h1
     have h1:=of_decide_eq_false h1;by_cases e2:y=z
     ·subst e2;rw[if_neg e];exact decide_eq_false h1
     ·rw[if_neg e2]at h2
      have h2:=of_decide_eq_false h2;rw[if_neg ⋯];exact decide_eq_false ⋯
theorem uH(rss:List (List Int)):Lt (λi j=>bG (rss.getD i []) (rss.getD j [])):=⟨λi j h=>ir _ _ h,λi j k h1 h2=>j7 _ _ _ h1 h2⟩
end HT
namespace L2
open PySem PySem.Spec PyProof.Rows PySem.W
section
variable{X:Cx}
theorem gy:∀{rs:List Addr}{us:List Value},Vals (rs.map Oi) us->us=rs.map ES
 | [],_,.nil=>rfl
 | _::_,_,.cons r t=>by
  rw[E1,<-gy t];cases r;rfl
theorem ja{f:Nat->V}{g:Nat->Value}:∀{p:List Nat},(∀i∈p,RelV (f i) (g i))->Vals (p.map f) (p.map g)
 | [],_=>.nil
 | i::p,h=>.cons (h i (.head _)) (ja λj hj=>h j (.tail _ hj))
def uI(K:Ec):List V->Hp->VK->Prop:=λxs H Q=>∃(l:Addr) (rs:List Addr) (rss:List (List Int)),xs=[.ref l]/\SqL K H l (rs.map Oi)/\rs.length=rss.length/\rs.length<64/\
 (∀(i:Nat) a r,rs[i]? = some a->rss[i]? = some r->SqT K H a (r.map Og))/\((∀r∈rss,r=[])\/(∀r∈rss,r≠[]))/\
 ∀(d:Addr) (p:List Nat),H d=none->p.Perm (Ej rs.length)->p.Pairwise (Ah λi j=>HT.bG (rss.getD i []) (rss.getD j []))->Q (.ref d) (upd H d (.lst (p.map λi=>.ref (rs.getD i 0))))
theorem nT (hu:X.A.in1.in1.units<cLine):bQ X (.builtin "sorted") (uI X.K):=by
 intro pins s σ H xs us Q I r h;obtain⟨l,rs,rss,rfl,hq,hlen,h64,ht,hw,q⟩:=h;obtain⟨u,rfl,rx⟩:=cx r;cases rx;obtain⟨its,r',pl,hz⟩:=I.list hq;obtain rfl:=gy r';have hl:(rs.map ES).length=rs.length:=Ea _;have tup:∀(h':Heap),(∀b o,s.heap.get? b=some o->h'.get? b=some o)->∀(i:Nat) v r,(rs.map ES)[i]? = some v->rss[i]? = some r->∃a its,v=.ref a/\IsTup h' a its/\Ox its.toList r:=λh' k i v r e1 e2=>by
  rw[Eh]at e1;obtain⟨a,ea,rfl⟩:=Gc.mp e1;obtain⟨its,r1,⟨o,ho,hc⟩,_⟩:=I.tuple (ht i a r ea e2);exact⟨a,its.toArray,rfl,⟨o,k _ _ ho,hc⟩,bY r1⟩
 have get:∀i,i<(rs.map ES).length->(rs.map ES)[i]? = some ((rs.map ES).getD i Fb)/\rss[i]? = some (rss.getD i []):=λi hi=>by
  have h2:i<rss.length:=by lia
  constructor
  ·rw[Eb,D9 hi];rfl
  ·rw[Eb,D9 h2];rfl
 have fin:∀p:List Nat,p.Perm (Ej (rs.map ES).length)->p.Pairwise (Ah λi j=>HT.bG (rss.getD i []) (rss.getD j []))->
   EP X pins σ Q (.ref (s.heap.objs.size+1)) { s with heap:=sortedAll s.heap (rs.map ES) (EX (p.map λi=>(rs.map ES).getD i Fb)) }:=λp hp hs=>by
  obtain⟨c,hc⟩:=sortedAll_at s.heap (rs.map ES) (EX (p.map λi=>(rs.map ES).getD i Fb));have hpl:=hp.length_eq;rw[E9,hl]at hpl;rw[hl]at hp;refine⟨.ref (s.heap.objs.size+1),_,I.laid (t':=s.toks) (λb o e=>sortedAll_old e) (GV _) (show ObjOk X.prog X.w _ _ _ (.lst (p.map λi=>.ref (rs.getD i 0)))from⟨?_,_,c,ja λi hi=>?_,hc⟩),rfl,q _ p (I.hok.fresh (GV _)) hp hs⟩
  ·rw[Ea,hpl,Os];lia
  ·have hi':i<rs.length:=ER.mp (hp.mem_iff.mp hi)
   rw[Eb,Eb,Eh,D9 hi'];rfl
 rcases hw with hw|hw
 ·refine HT.fm (κ:=oneType') pl.isList ⋯ (HT.uH rss) (λh' Q' h2 k hQ=>HT.su h2 (λv hv=>?_) hQ) (λh' i j Q' hi hj k hQ=>?_) fin
  ·obtain⟨i,hi,ei⟩:=GY hv
   obtain⟨g1,g2⟩:=get i hi;obtain⟨a,its,rfl,t,ti⟩:=tup h' k i v _ (by rw[D9 hi,ei]) g2;rw[hw _ (Ez g2)]at ti;obtain⟨its'⟩:=its;cases ti;exact⟨a,rfl,t⟩
  ·obtain⟨g1,g2⟩:=get i hi
   obtain⟨k1,k2⟩:=get j hj;obtain⟨a,its,e,t,ti⟩:=tup h' k i _ _ g1 g2;obtain⟨a',its',e',t',ti'⟩:=tup h' k j _ _ k1 k2;rw[e,e'];exact HT.wH hu t t' ti ti' hQ
 ·refine HT.fm (κ:=tuples' true) pl.isList ⋯ (HT.uH rss) (λh' Q' h2 k hQ=>HT.pW h2 ⋯ (tup h' k) hw hQ) (λh' i j Q' hi hj k hQ=>?_) fin
  obtain⟨g1,g2⟩:=get i hi;obtain⟨k1,k2⟩:=get j hj;obtain⟨a,its,e,t,ti⟩:=tup h' k i _ _ g1 g2;obtain⟨a',its',e',t',ti'⟩:=tup h' k j _ _ k1 k2;rw[e,e'];exact HT.sr t t' ti ti' hQ
end
section
variable{X:Cx}
end
end L2
namespace HT
open PySem PyProof.Rows PySem.W L2
section
variable{prog:Program}{w:World}{A:Around}{E:Value->Shared->Prop}{s:Shared}
end
theorem wI{vs:List Value}{ns:List Int}(h:Ox vs ns):∀{i:Nat},i<vs.length->∃t,vs.getD i Fb=.int (ns.getD i 0) t:=by
 induction h with
 | nil=>intro i hi;cases hi
 | cons n t h ih=>
  intro i hi;cases i with
  | zero=>exact⟨t,rfl⟩
  | succ i=>
   obtain⟨t',e⟩:=ih (i:=i) (by simpa using hi);exact⟨t',by simpa using e⟩
end HT
namespace L2
open PySem PySem.Spec PyProof.Rows PySem.W
section
variable{X:Cx}
end
end L2
namespace L2
open PySem PySem.Spec PyProof.Rows
def zF(x:V)(d:PyData):Prop:=(x=.non/\d=.none)\/(∃b,x=.bl b/\d=.bool b)\/(∃i:Int,x=.int i/\d=.int i/\i.natAbs<10 ^ 22)\/(∃y,x=.str y/\d=.str y/\(Ny y).showable=true/\Fy 25 (.str y)=true)
theorem nU{x:V}{d:PyData}(h:zF x d)(n:Nat):d.showable=true/\d.hasDict=false/\d.depth<=n/\Fy 25 d=true:=by
 rcases h with⟨rfl,rfl⟩|⟨b,rfl,rfl⟩|⟨i,rfl,rfl,hi⟩|⟨y,rfl,rfl,h1,h2⟩
 ·exact⟨rfl,rfl,Eo _,by decide +kernel⟩
 ·exact⟨rfl,rfl,Eo _,by cases b<;>decide +kernel⟩
 ·refine⟨?_,rfl,Eo _,?_⟩
  ·unfold Jz
   refine decide_eq_true ?_;by_cases h0:i.natAbs=0
   ·rw[h0];decide
   ·have:i.natAbs<2 ^ 80:=Ic hi (by decide)
    have:=(JF h0).mpr this;lia
  ·unfold Fy
   refine decide_eq_true ?_;have e:=int_text_length_le10 (k:=22) (by decide) hi;show(EU (toString i)).length<=25
   rw[FK];exact E5 e (by decide)
 ·exact⟨h1,rfl,Eo _,h2⟩
noncomputable def DatM:Nat->Hp->V->PyData->Prop
 | 0,_,x,d=>zF x d
 | n+1,H,x,d=>zF x d\/(∃a xs ds,x=.ref a/\d=.list ds/\H a=some (.lst xs)/\xs.length=ds.length/\∀(i:Nat) u e,xs[i]? = some u->ds[i]? = some e->DatM n H u e)\/
  (∃a xs ds,x=.ref a/\d=.tuple ds/\H a=some (.tup xs)/\xs.length=ds.length/\∀(i:Nat) u e,xs[i]? = some u->ds[i]? = some e->DatM n H u e)
theorem DatM.facts{H:Hp}:∀{n:Nat}{x:V}{d:PyData},DatM n H x d->d.showable=true/\d.hasDict=false/\d.depth<=n/\Fy 25 d=true
 | n,x,d,h=>by
  have hint:zF x d->d.showable=true/\d.hasDict=false/\d.depth<=n/\Fy 25 d=true:=by
   intro h;exact nU h n
  match n,h with
  | 0,h=>exact hint h
  | n+1,h=>
   rcases h with h|⟨a,xs,ds,rfl,rfl,ha,hl,hi⟩|⟨a,xs,ds,rfl,rfl,ha,hl,hi⟩
   ·exact hint h
   ·have hd:∀d∈ds,d.showable=true/\d.hasDict=false/\d.depth<=n/\Fy 25 d=true:=λd hd=>by
     obtain⟨i,e⟩:=F0 hd;have hlt:=bq e;exact DatM.facts (hi i (xs[i]'⋯) d (D9 _) e)
    exact⟨gn (P:=Jz) (PA:=Kx) rfl (λ_ _=>rfl) λd h=>(hd d h).1,dc λd h=>(hd d h).2.1,Gw (cC λd h=>(hd d h).2.2.1),gn (P:=Fy 25) (PA:=JS 25) rfl (λ_ _=>rfl) λd h=>(hd d h).2.2.2⟩
   ·have hd:∀d∈ds,d.showable=true/\d.hasDict=false/\d.depth<=n/\Fy 25 d=true:=λd hd=>by
     obtain⟨i,e⟩:=F0 hd;have hlt:=bq e;exact DatM.facts (hi i (xs[i]'⋯) d (D9 _) e)
    exact⟨gn (P:=Jz) (PA:=Kx) rfl (λ_ _=>rfl) λd h=>(hd d h).1,dc λd h=>(hd d h).2.1,Gw (cC λd h=>(hd d h).2.2.1),gn (P:=Fy 25) (PA:=JS 25) rfl (λ_ _=>rfl) λd h=>(hd d h).2.2.2⟩
section
variable{X:Cx}{pins:List (Addr×Obj)}{σ:St}{H:Hp}{s:Shared}
theorem DatM.reads(I:Inv X pins σ H s):∀{n:Nat}{x:V}{d:PyData}{v:Value},DatM n H x d->RelV x v->∃as,Reads s.heap v d as
 | n,x,d,v,h,r=>by
  have hint:zF x d->∃as,Reads s.heap v d as:=by
   rintro(⟨rfl,rfl⟩|⟨b,rfl,rfl⟩|⟨i,rfl,rfl,_⟩|⟨y,rfl,rfl,_⟩)
   ·cases r;exact⟨_,.none⟩
   ·cases r;exact⟨_,.bool b⟩
   ·obtain⟨t,rfl⟩:=r;exact⟨_,.int i t⟩
   ·obtain⟨t,rfl⟩:=r;exact⟨_,.str y t⟩
  match n,h with
  | 0,h=>exact hint h
  | n+1,h=>
   rcases h with h|⟨a,xs,ds,rfl,rfl,ha,hl,hi⟩|⟨a,xs,ds,rfl,rfl,ha,hl,hi⟩
   ·exact hint h
   ·cases r
    obtain⟨its,m,rv,ho,hz⟩:=I.lst ha;obtain⟨as,h1⟩:=cD (R:=DatM n H) (λx v d h r=>DatM.reads I h r) rv hl hi;exact⟨_,.list ho rfl rfl (by simpa using h1)⟩
   ·cases r
    obtain⟨its,rv,⟨ob,ho,hc,m,hd⟩,hz⟩:=I.tuple (Of ha);obtain⟨as,h1⟩:=cD (R:=DatM n H) (λx v d h r=>DatM.reads I h r) rv hl hi;exact⟨_,.tuple ho hc hd (by simpa using h1)⟩
def Ce:List V->Hp->VK->Prop:=λxs H Q=>∃(a:Addr) (d:PyData),xs=[.ref a]/\DatM 3 H (.ref a) d/\d.weight<=2 ^ 19/\Q (.str d.shown) H
theorem wJ (hg:X.A.guards=some []) (hu:X.A.units+64<cLine):bQ X (.type "str") Ce:=by
 intro pins s σ H xs us Q I r h;obtain⟨a,d,rfl,hd,hw,q⟩:=h;obtain⟨u,rfl,ru⟩:=cx r;obtain⟨as,h1⟩:=hd.reads I ru;cases ru;obtain⟨f1,f2,f3,f4⟩:=hd.facts;refine str_of_reads h1 f1 (λz=>by rw[f2]at z;cases z) hg ⋯ (λb o e=>e) (λh' u tk hk=>?_) (by
  have h:=PyData.shown_le 25 (by decide) d f4;have e:(2:Nat) ^ 19=524288:=by decide
  have h2:(25+2)*d.weight<=27*524288:=Md ⋯ ⋯;rw[Os];lia)
 exact⟨.str d.shown,H,I.kept hk,⟨u,rfl⟩,q⟩
end
section
variable{κ:Type}[DecidableEq κ]
end
section
variable{P:Program}{w:World}{H:Hp}{h:Heap}{a:Addr}
end
section
variable{X:Cx}{pins:List (Addr×Obj)}{σ:St}{H:Hp}{s:Shared}{a:Addr}{y v:V}{u r:Value}{o:Option V}{A:Around}{E:Value->Shared->Prop}
end
section
variable{X:Cx}{pins:List (Addr×Obj)}{σ:St}{H:Hp}{s:Shared}{a:Addr}{kvs:List (Key×V)}{k:Key}{u:Value}{A:Around}{E:Value->Shared->Prop}
end
section
variable{X:Cx}{o i e value:Expr}{pos pos' tpos:Pos}{td ty tv:TE}
end
section
variable{X:Cx}{pos:Pos}
end
section
variable{X:Cx}{pins:List (Addr×Obj)}{σ:St}{H:Hp}{s:Shared}{a:Addr}{y d:V}{u r:Value}{o:Option V}{A:Around}{E:Value->Shared->Prop}
end
section
variable{X:Cx}{o e f:Expr}{apos cpos:Pos}{td ty tx:TE}
end
section
variable{X:Cx}{pins:List (Addr×Obj)}{σ:St}{H:Hp}{s:Shared}{a:Addr}{kvs:List (Key×V)}{A:Around}{E:Value->Shared->Prop}
end
section
variable{X:Cx}{pins:List (Addr×Obj)}{σ:St}{H:Hp}{s:Shared}{a:Addr}{y:V}{u:Value}{A:Around}{E:Value->Shared->Prop}
end
section
variable{X:Cx}{o i value:Expr}{td ty tv:TE}{pos pos':Pos}
end
end L2
namespace HT
open PySem PyProof.Rows PySem.W L2
section
variable{prog:Program}{w:World}{A:Around}{E:Value->Shared->Prop}{s:Shared}{a kS:Addr}{vs ks:List Value}{e e1:Nat}{P:NT->Shared->Prop}
end
end HT
namespace L2
open PySem PySem.Spec PyProof.Rows PySem.W
section
variable{X:Cx}{N frs:List Str}{x qual:Str}{ix:List Nat}{scope:Scope}{cl:List (Str×Addr)}{A:Around}{f c' C:Addr}
end
section
variable{X:Cx}{N frs:List Str}{x:Str}{ix:List Nat}{scope:Scope}{cl:List (Str×Addr)}{A:Around}{cc P:Addr}{pins:List (Addr×Obj)}{σ:St}{H:Hp}{s:Shared}{params:Arguments}{body:Expr}{lpos:Pos}
section
variable{te:TE}{t:TA}{p p2 pos pos2 kpos:Pos}{e a:Expr}{k:Nat}{qual:Str}
end
end
section
variable{P:Program}{w:World}{K:Ec}{mg:Str->Option Value}{base:Heap}
end
section
variable{X:Cx}{o:Expr}{to:TE}{pos apos cpos:Pos}
end
end L2
namespace L2
open PySem PySem.Spec PyProof.Rows
inductive StrA (H:Hp):V->Str->Prop where
 | non:StrA H .non "None"
 | bl (b:Bool):StrA H (.bl b) (if b then "True" else "False")
 | int (i:Int) (h:i.natAbs<10 ^ 22):StrA H (.int i) (toString i)
 | str (y:Str):StrA H (.str y) y
 | dat {a:Addr}{d:PyData}(h:DatM 3 H (.ref a) d) (hw:d.weight<=2 ^ 19):StrA H (.ref a) d.shown
def Cf:List V->Hp->VK->Prop:=λxs H Q=>∃x y,xs=[x]/\StrA H x y/\Q (.str y) H
section
variable{X:Cx}
theorem lF (hg:X.A.guards=some []) (hu:X.A.units+64<cLine):QC X (.type "str") Cf:=by
 refine⟨λpins s σ H xs us Q I r h=>?_⟩;obtain⟨x,y,rfl,hS,q⟩:=h;obtain⟨u,rfl,ru⟩:=cx r;cases hS with
 | non=>cases ru;exact P.str_of_none ⟨.str "None",H,I.tok _,⟨_,rfl⟩,q⟩
 | bl b=>cases ru;exact P.str_of_bool ⟨.str _,H,I.tok _,⟨_,rfl⟩,q⟩
 | int i h=>
  obtain⟨t,rfl⟩:=ru;refine P.str_of_int ?_ ⟨.str _,H,I.tok _,⟨_,rfl⟩,q⟩;by_cases h0:i.natAbs=0
  ·rw[h0];decide
  ·have:i.natAbs<2 ^ 80:=Ic h (by decide)
   have:=(JF h0).mpr this;lia
 | str y=>obtain⟨t,rfl⟩:=ru;exact P.str_of_str ⟨.str _,H,I,⟨_,rfl⟩,q⟩
 | @dat a d h hw=>exact wJ hg hu pins s σ H [.ref a] [u] Q I (.cons ru .nil) ⟨a,d,rfl,h,hw,q⟩
end
section
variable{K:Ec}{H:Hp}{Q:VK}
end
section
variable{H:Hp}{n w:Nat}
end
section
variable{H H1 H2:Hp}
end
section
variable{H H1:Hp}{p a:Addr}{o:HO}
end
section
variable{H H1:Hp}{x:V}{os:List Nat}{a:Addr}{xs:List V}
end
theorem Rk.tr0(h1:Rk rss c i j)(h2:Rk rss c j k):Rk rss c i k:=by
 unfold Rk at *;rcases h1 with h1|⟨e1,l1⟩
 ·rcases h2 with h2|⟨e2,l2⟩
  ·exact .inl (jZ h1 h2)
  ·rw[e2]at h1;exact .inl h1
 ·rcases h2 with h2|⟨e2,l2⟩
  ·rw[<-e1]at h2;exact .inl h2
  ·exact .inr ⟨e1.trans e2,by lia⟩
structure Seg (rss:List (List Nat)) (f l:Nat) (x:List Nat):Prop where
 perm:x.Perm (Gr f (l - f))
 sort:x.Pairwise (Rk rss 0)
section
variable{rss:List (List Nat)}{f m l:Nat}{x y:List Nat}
theorem Seg.len(h:Seg rss f l x):x.length=l - f:=by have:=h.perm.length_eq;simpa using this
theorem Seg.mem(h:Seg rss f l x)(hi:i∈x):f<=i/\i<l:=by
 have:=h.perm.mem_iff.mp hi;rw[List.mem_range'_1]at this;lia
theorem Seg.both(hx:Seg rss f m x)(hy:Seg rss m l y)(h1:f<=m)(h2:m<=l):(x++y).Perm (Gr f (l - f)):=by
 have e:Gr f (l - f)=Gr f (m - f)++Gr m (l - m):=by
  rw[show l - f=(m - f)+(l - m)by lia,<-J3,show f+(m - f)=m by lia]
 rw[e];exact hx.perm.append hy.perm
end
noncomputable def Part(rss:List (List Nat)):Nat->List Nat->List Nat->Prop
 | _,[],o=>o=[]
 | f,a::r,o=>∃x y,o=x++y/\x.length=a/\Seg rss f (f+a) x/\Part rss (f+a) r y
section
variable{rss:List (List Nat)}
theorem Part.len:∀{ls:List Nat}{f:Nat}{o:List Nat},Part rss f ls o->o.length=ls.sum
 | [],_,_,h=>by rw[show _=[]from h];rfl
 | a::r,f,o,⟨x,y,e,hx,_,hy⟩=>by rw[e,En,hx,Part.len hy,Fv]
theorem Part.snoc:∀{ls:List Nat}{f a:Nat}{o x:List Nat},Part rss f ls o->Seg rss (f+ls.sum) (f+ls.sum+a) x->Part rss f (ls++[a]) (o++x)
 | [],f,a,o,x,h,g=>by
  rw[show o=[]from h];exact⟨x,[],by simp,by have:=g.len;lia,by simpa using g,rfl⟩
 | b::r,f,a,o,x,⟨u,v,e,hu,hs,hv⟩,g=>by
  refine⟨u,v++x,by rw[e,Fi],hu,hs,Part.snoc hv ?_⟩;rw[Fv,<-IK]at g;exact g
noncomputable def RnS(rss:List (List Nat))(n:Nat):List dj->List Nat->Prop
 | [],o=>Seg rss 0 n o
 | s::r,o=>s.1<=s.2.1/\s.2.1<=s.2.2/\s.2.2<=o.length/\Seg rss s.1 s.2.1 ((o.drop s.1).take (s.2.1 - s.1))/\Seg rss s.2.1 s.2.2 ((o.drop s.2.1).take (s.2.2 - s.2.1))/\
  ∀x,Seg rss s.1 s.2.2 x->RnS rss n r (o.take s.1++x++o.drop s.2.2)
theorem RnS.round{rest:List dj}(f:Nat)(ls:List Nat):∀{don pre o:List Nat},Part rss 0 don pre->don.sum=f->Part rss f ls o->(∀o',Part rss 0 (don++(rnd f ls).2) o'->RnS rss n rest o')->RnS rss n ((rnd f ls).1++rest) (pre++o):=by
 induction f,ls using rnd.induct with
 | case1 f a b r ih=>
  rintro don pre o hd hf ⟨x,o1,rfl,hx,sx,y,z,rfl,hy,sy,hz⟩ k;have hpl:pre.length=f:=by rw[hd.len,hf]
  rw[fi];have d1:(pre++(x++(y++z))).drop f=x++(y++z):=by rw[<-hpl,JT]
  have d2:(pre++(x++(y++z))).drop (f+a)=y++z:=by
   rw[<-He,d1,<-hx,JT]
  have d3:(pre++(x++(y++z))).drop (f+a+b)=z:=by
   rw[<-He,d2,<-hy,JT]
  refine⟨Ga _ _,Ga _ _,?_,?_,?_,λw sw=>?_⟩
  ·show f+a+b<=_
   simp only[En];lia
  ·show Seg rss f (f+a) (((pre++(x++(y++z))).drop f).take (f+a - f))
   rw[d1,show f+a - f=x.length by lia,JU];exact sx
  ·show Seg rss (f+a) (f+a+b) (((pre++(x++(y++z))).drop (f+a)).take (f+a+b - (f+a)))
   rw[d2,show f+a+b - (f+a)=y.length by lia,JU];exact sy
  ·show RnS rss n _ ((pre++(x++(y++z))).take f++w++(pre++(x++(y++z))).drop (f+a+b))
   rw[d3];have t1:(pre++(x++(y++z))).take f=pre:=by rw[<-hpl,JU]
   rw[t1];refine ih (don:=don++[a+b]) (hd.snoc ?_) (by simp;lia) hz λo' ho'=>?_
   ·rw[hf,M4,show f+(a+b)=f+a+b by lia];exact sw
   ·refine k o' ?_
    rw[fi];rw[Fi]at ho';exact ho'
 | case2 f a=>
  rintro don pre o hd hf ⟨x,o1,rfl,hx,sx,rfl⟩ k;rw[fj,HY,Fl];refine k _ ?_;rw[fj];refine hd.snoc ?_;rw[hf,M4];exact sx
 | case3 f=>
  rintro don pre o hd hf ho k;rw[show o=[]from ho,du,HY,Fl];refine k _ ?_;rw[du,Fl];exact hd
theorem RnS.all:∀(m:Nat) (ls:List Nat){o:List Nat},ls.length<=m->Part rss 0 ls o->RnS rss ls.sum (fk ls) o
 | 0,ls,o,h,p=>by
  have:ls=[]:=FA.mp ⋯;subst this;rw[eS (by simp),show o=[]from p];exact⟨GN _,Hm⟩
 | m+1,ls,o,h,p=>by
  by_cases g:1<ls.length
  ·obtain⟨l1,l2⟩:=gr 0 ls
   rw[gu g];have:=RnS.round (rss:=rss) (n:=ls.sum) (rest:=fk (rnd 0 ls).2) 0 ls (don:=[]) (pre:=[]) (o:=o) rfl rfl p λo' ho'=>by
    have:=RnS.all m (rnd 0 ls).2 ⋯ ho';rw[pS]at this;exact this
   simpa using this
  ·rw[eS g]
   match ls,p with
   | [],p=>rw[show o=[]from p];exact⟨GN _,Hm⟩
   | [a],⟨x,y,e,hx,sx,hy⟩=>
    rw[show y=[]from hy,Fl]at e;subst e;show Seg rss 0 _ _
    simpa using sx
   | a::b::r,_=>exact absurd (by simp) g
def Rise(rss:List (List Nat))(f a:Nat):Prop:=∀i,f<=i->i+1<f+a->brk rss (i+1)=false
theorem Rise.seg{f a:Nat}(h:Rise rss f a):Seg rss f (f+a) (Gr f a):=by
 refine⟨by rw[show f+a - f=a by lia],?_⟩;have step:∀i,f<=i->i+1<f+a->Rk rss 0 i (i+1):=λi h1 h2=>by
  have:=h i h1 h2;unfold brk at this;rw[IC]at this;unfold Rk;rw[Fw,Fw];rcases pK (rss.getD i []) (rss.getD (i+1) [])with q|q|q
  ·exact .inl q
  ·exact .inr ⟨q,by lia⟩
  ·rw[q]at this;cases this
 have far:∀d i,f<=i->i+d+1<f+a->Rk rss 0 i (i+d+1):=λd=>by
  induction d with
  | zero=>exact λi h1 h2=>step i h1 h2
  | succ d ih=>exact λi h1 h2=>(ih i h1 ⋯).tr0 (step (i+d+1) ⋯ ⋯)
 rw[EW];intro i j hi hj hij;simp only[List.length_range']at hi hj;simp only[List.getElem_range',Nh];have:=far (j - i - 1) (f+i) ⋯ ⋯;rw[show f+i+(j - i - 1)+1=f+j by lia]at this;exact this
noncomputable def Rises(rss:List (List Nat)):Nat->List Nat->Prop
 | _,[]=>True
 | f,a::r=>Rise rss f a/\Rises rss (f+a) r
theorem Rises.snoc:∀{ls:List Nat}{f a:Nat},Rises rss f (ls++[a])↔Rises rss f ls/\Rise rss (f+ls.sum) a
 | [],f,a=>by simp[Rises]
 | b::r,f,a=>by
  rw[Jl];show(Rise rss f b/\Rises rss (f+b) (r++[a]))↔(Rise rss f b/\Rises rss (f+b) r)/\Rise rss (f+(b::r).sum) a
  rw[Rises.snoc,Fv,<-IK,and_assoc]
theorem j8(rss:List (List Nat)):∀m,Rises rss 0 (bJ rss m)
 | 0=>Ek
 | m+1=>by
  have ih:=j8 rss m;rw[bJ];split
  ·rename_i h
   obtain⟨m',rfl⟩:∃m',m=m'+1:=⟨m - 1,by lia⟩
   obtain⟨ys,a,e⟩:=lC (gw rss m');have hs:=eT rss (m'+1);rw[e]at ih hs;rw[e,gv];rw[Rises.snoc]at ih ⊢;refine⟨ih.1,λi h1 h2=>?_⟩;simp at hs;by_cases g:i+1<0+ys.sum+a
   ·exact ih.2 i h1 g
   ·rw[show i+1=m'+1 by lia];exact h.2
  ·rw[Rises.snoc]
   exact⟨ih,λi h1 h2=>by lia⟩
theorem Rises.part:∀{ls:List Nat}{f:Nat},Rises rss f ls->Part rss f ls (Gr f ls.sum)
 | [],_,_=>rfl
 | a::r,f,⟨h1,h2⟩=>⟨Gr f a,Gr (f+a) r.sum,by rw[Fv,<-J3],by simp,h1.seg,Rises.part h2⟩
theorem nV(rss:List (List Nat))(n:Nat):Part rss 0 (bJ rss n) (Ej n):=by
 have:=(j8 rss n).part;rw[eT,<-J6]at this;exact this
theorem sv(rss:List (List Nat))(n:Nat):RnS rss n (fk (bJ rss n)) (Ej n):=by
 have:=RnS.all _ (bJ rss n) (Ed _) (nV rss n);rw[eT]at this;exact this
end
inductive Mgd (r1 r2:List (List Nat)):Nat->Nat->List (Nat×Nat)->Prop where
 | nil:Mgd r1 r2 0 0 []
 | one {i j:Nat}{ws:List (Nat×Nat)}(h:Mgd r1 r2 i j ws) (hi:i<r1.length) (c:j=r2.length\/lxt (r2.getD j []) (r1.getD i [])=false):Mgd r1 r2 (i+1) j (ws++[(0,i)])
 | two {i j:Nat}{ws:List (Nat×Nat)}(h:Mgd r1 r2 i j ws) (hj:j<r2.length) (c:i=r1.length\/lxt (r2.getD j []) (r1.getD i [])=true):Mgd r1 r2 i (j+1) (ws++[(1,j)])
noncomputable def kP(xs ys:List Nat)(w:Nat×Nat):Nat:=if w.1=0 then xs.getD w.2 0 else ys.getD w.2 0
theorem jb{xs:List Nat}(h:xs.Pairwise (Rk rss 0))(hik:i<k)(hk:k<xs.length):Rk rss 0 (xs.getD i 0) (xs.getD k 0):=by
 rw[EW]at h;have:=h i k ⋯ hk hik;rw[Eb,Eb,D9 (by lia:i<xs.length),D9 hk];exact this
theorem eU{xs:List Nat}(h:i<xs.length):(xs.map λx=>rss.getD x []).getD i []=rss.getD (xs.getD i 0) []:=by
 rw[Eb,Eh,Eb (l:=xs),D9 h];rfl
theorem j9{xs:List Nat}(h:i<xs.length):xs.getD i 0∈xs:=by
 rw[Eb,D9 h];exact Es h
theorem iu{xs:List Nat}(h:i<xs.length):xs.take (i+1)=xs.take i++[xs.getD i 0]:=by
 rw[Em,Eb,D9 h];rfl
theorem Mgd.inv{xs ys:List Nat}{f l:Nat}{ws:List (Nat×Nat)}(hx:Seg rss f m xs)(hy:Seg rss m l ys)
  (h:Mgd (xs.map λx=>rss.getD x []) (ys.map λx=>rss.getD x []) i j ws):i<=xs.length/\j<=ys.length/\(ws.map (kP xs ys)).Perm (xs.take i++ys.take j)/\(ws.map (kP xs ys)).Pairwise (Rk rss 0)/\
   ∀z∈ws.map (kP xs ys),(∀k,i<=k->k<xs.length->Rk rss 0 z (xs.getD k 0))/\(∀k,j<=k->k<ys.length->Rk rss 0 z (ys.getD k 0)):=by
 induction h with
 | nil=>exact⟨Eo _,Eo _,by simp,Hm,λz hz=>nomatch hz⟩
 | @one i j ws h hi c ih=>
  obtain⟨h1,h2,h3,h4,h5⟩:=ih;rw[Ea]at hi c;have ez:(ws++[(0,i)]).map (kP xs ys)=ws.map (kP xs ys)++[xs.getD i 0]:=by rw[Ef];rfl
  have ryj:j<ys.length->Rk rss 0 (xs.getD i 0) (ys.getD j 0):=λhj=>by
   rcases c with c|c
   ·lia
   ·rw[eU hj,eU hi]at c
    unfold Rk;rw[Fw,Fw];rcases pK (rss.getD (xs.getD i 0) []) (rss.getD (ys.getD j 0) [])with q|q|q
    ·exact .inl q
    ·exact .inr ⟨q,by have a:=hx.mem (j9 hi);have b:=hy.mem (j9 hj);lia⟩
    ·rw[q]at c;cases c
  rw[ez];refine⟨hi,h2,?_,?_,λz hz=>?_⟩
  ·rw[iu hi]
   refine(h3.append_right [xs.getD i 0]).trans ?_;rw[Fi,Fi];exact JO _ List.perm_append_comm
  ·rw[F3]
   exact⟨h4,GA _ _,λa ha b hb=>by rw[EG.mp hb];exact(h5 a ha).1 i (Ed _) hi⟩
  ·rcases ET.mp hz with hz|hz
   ·exact⟨λk a b=>(h5 z hz).1 k ⋯ b,(h5 z hz).2⟩
   ·rw[EG.mp hz]
    refine⟨λk a b=>jb hx.sort ⋯ b,λk a b=>?_⟩;have:=ryj ⋯;rcases F5 j k with g|g
    ·exact this.tr0 (jb hy.sort g b)
    ·rw[show k=j by lia];exact this
 | @two i j ws h hj c ih=>
  obtain⟨h1,h2,h3,h4,h5⟩:=ih;rw[Ea]at hj c;have ez:(ws++[(1,j)]).map (kP xs ys)=ws.map (kP xs ys)++[ys.getD j 0]:=by rw[Ef];rfl
  have rxi:i<xs.length->Rk rss 0 (ys.getD j 0) (xs.getD i 0):=λhi=>by
   rcases c with c|c
   ·lia
   ·rw[eU hj,eU hi]at c
    exact .inl (by rw[Fw,Fw];exact c)
  rw[ez];refine⟨h1,hj,?_,?_,λz hz=>?_⟩
  ·rw[iu hj,<-Fi]
   exact h3.append_right _
  ·rw[F3]
   exact⟨h4,GA _ _,λa ha b hb=>by rw[EG.mp hb];exact(h5 a ha).2 j (Ed _) hj⟩
  ·rcases ET.mp hz with hz|hz
   ·exact⟨(h5 z hz).1,λk a b=>(h5 z hz).2 k ⋯ b⟩
   ·rw[EG.mp hz]
    refine⟨λk a b=>?_,λk a b=>jb hy.sort ⋯ b⟩;have:=rxi ⋯;rcases F5 i k with g|g
    ·exact this.tr0 (jb hx.sort g b)
    ·rw[show k=i by lia];exact this
theorem Mgd.seg{xs ys:List Nat}{f l:Nat}{ws:List (Nat×Nat)}(hx:Seg rss f m xs)(hy:Seg rss m l ys)(h1:f<=m)(h2:m<=l)
  (h:Mgd (xs.map λx=>rss.getD x []) (ys.map λx=>rss.getD x []) xs.length ys.length ws):Seg rss f l (ws.map (kP xs ys)):=by
 obtain⟨_,_,p,s,_⟩:=h.inv hx hy;rw[Ll,Ll]at p;exact⟨p.trans (hx.both hy h1 h2),s⟩
section
variable{X:Cx}{pos:Pos}
end
section
variable{X:Cx}{tg a b c:Expr}{t:TA}{p pos:Pos}
end
end L2
namespace HT
open PySem PyProof.Rows PySem.W L2
section
variable{α β:Type}
end
end HT
namespace L2
open PySem PySem.Spec PyProof.Rows
section
variable{X:Cx}{pins:List (Addr×Obj)}{σ:St}{H:Hp}{s:Shared}{h':Heap}
end
noncomputable abbrev TEX:=St->Hp->VK->(Addr->Option Addr->Hp->Prop)->Prop
section
variable{X:Cx}{st:Stmt}{sts s1 s2:List Stmt}{T1 T2:TX}{c e:Expr}{es:List Expr}{tA:TT}{te:TE}{t:TA}{pos p:Pos}{x:Str}{i:Nat}
variable{tx:TEX}
end
section
variable{X:Cx}{pins:List (Addr×Obj)}{σ:St}{H:Hp}{s:Shared}{h':Heap}
end
section
variable{P:Program}{w:World}{K:Ec}{mg:Str->Option Value}{base:Heap}
end
end L2
namespace L2
open PySem PySem.Spec PyProof.Rows PySem.W
section
variable{prog:Program}{w:World}{A:Around}{E:Value->Shared->Prop}{h:Heap}{g:Array GenState}{d:Drawn}{t:Nat}{os:OsState}{K:Frag}{a C:Addr}{o:Obj}{vs:Array Value}
end
section
variable{X:Cx}
end
section
variable{X:Cx}{e:Expr}{es:List Expr}{t:TA}{np cpos pos p:Pos}{x:Str}{C:Addr}
end
section
variable{X:Cx}{pins:List (Addr×Obj)}{σ:St}{H:Hp}{s:Shared}
end
section
variable{X:Cx}{body suite:List Stmt}{b0:Stmt}{tb:TX}{ts:TS}{n x:Str}{i:Nat}{C:Addr}{np hpos pos:Pos}
end
end L2
namespace L2
open PySem PySem.Spec PyProof.Rows
section
variable{X:Cx}{v:Expr}{te:TE}{a b:Str}{p1 p2 p3 pos:Pos}{j1 j3:Nat}
end
section
variable{D:Ends}{Ex:XW}{σ:St}{H:Hp}{Q:VK}{K:Ec}{i:Nat}{C:Addr}
end
section
variable{X:Cx}
end
section
variable{H H1:Hp}{x:V}{n:Nat}
end
theorem cm:QOp X (OB .Add) (λx y H Q=>∃i j,x=.str i/\y=.str j/\i.length+j.length<=Oo/\Q (.str (i++j)) H):=⟨nz⟩
theorem gz:QC X (.type "str") (λxs H Q=>∃i:Int,xs=[.int i]/\i.natAbs.log2<1920/\Q (.str (toString i)) H):=⟨jw⟩
end L2
namespace HT
open PySem PyProof.Rows PySem.W L2
noncomputable def lt2(k m:List Int×List Int):Bool:=if k.1=m.1 then bG k.2 m.2 else bG k.1 m.1
section
variable{prog:Program}{w:World}{A:Around}{E:Value->Shared->Prop}{s:Shared}
end
end HT
namespace L2
open PySem PySem.Spec PyProof.Rows
section
variable{X:Cx}
end
section
variable{X:Cx}{o e value:Expr}{es:List Expr}{f m x:Str}{pos pos' tpos apos p:Pos}{ta tv:TE}{t:TA}{C g:Addr}{CX:CXT}{k:Nat}{fd:FuncData}{ps:List Str}{sp:Sp}{E:XK}
theorem Cg{K:Ec}(hK:X.K=K:=by rfl):QOp X (Ou .In) (rIn K false):=by subst hK;exact⟨oP⟩
theorem ka{K:Ec}(he:QE X e ta)(hb:Ow e f X.env (eval e X.env)=eval e X.env:=by rfl)(hK:X.K=K:=by rfl):QE X (.Attribute e f pos) (Bs K ta f):=by
 subst hK;exact⟨yI he.out hb⟩
theorem kb{K:Ec}(ha:QE X o ta)(hv:QE X value tv)(hs:OL value (some (.Attribute o f pos')) pos.line X.env=pure false:=by rfl)(hK:X.K=K:=by rfl):QS X (.Assign [.Attribute o f pos'] value pos) (Bt K ta tv f):=by
 subst hK;exact⟨yJ ha.out hv.out hs⟩
theorem wK(M:Mk X.K C g)(F:FnOk X.prog X.w X.K X.mg X.base CX k g fd ps sp)(hr:Room (k+1) X.A)(hg:Gl X x)(hm:X.mg x=some (.ref C))(hb:Binds X.K fd ps [])(hx:eD CX X E)
  (ha:QA X (e::es) t) (hdb:(x == ("__debug__" : Str))=false:=by decide) (he:Ot (e::es) X.env=(false,eval e X.env)::Ot es X.env:=by rfl) (hpl:(backTo pos (Ot es X.env)).any (·.1)=false:=by rfl) :
  QE X (.Call (.Name x p) (e::es) [] pos) (vJ C sp [] E t):=⟨vL M F hr hg hm hb .nil hx ha.out hdb he hpl⟩
end
section
variable{K:Ec}{σ:St}{H:Hp}{Q:VK}{D:Ends}{ta tv:TE}{t:TA}{f m:Str}{C:Addr}{sp:Sp}{E:XK}{a dx:Addr}{fs:List (Str×V)}{v:V}
theorem Dm(h:ta σ H λx H1=>∃a C dx fs v,x=.ref a/\H1 a=some (.ins C dx fs)/\Cls K C/\NoAttr K C f/\fs.lookup f=some v/\Q v H1):Bs K ta f σ H Q:=h
theorem Ci(h:tv σ H λy H1=>ta σ H1 λx H2=>∃a C dx fs,x=.ref a/\H2 a=some (.ins C dx fs)/\Cls K C/\NoAttr K C f/\fs.length<1000/\D.nx σ (upd H2 a (.ins C dx (bU f y fs)))):Bt K ta tv f D σ H:=h
theorem Cj(h:t σ H λvs H1=>∀x dx,H1 x=none->H1 dx=none->dx≠x->sp (.ref x::(vs++[])) (upd (upd H1 dx (.own x)) x (.ins C dx [])) (λv H2=>v=.non/\Q (.ref x) H2) E):vJ C sp [] E t σ H Q:=h
end
def pX(x:V)(d:PyData):Prop:=(x=.non/\d=.none)\/(∃b,x=.bl b/\d=.bool b)\/(∃i:Int,x=.int i/\d=.int i)\/(∃y,x=.str y/\d=.str y/\Gx y=true)
noncomputable def DatE:Nat->Hp->V->PyData->Prop
 | 0,_,x,d=>pX x d
 | n+1,H,x,d=>pX x d\/(∃a xs ds,x=.ref a/\d=.list ds/\H a=some (.lst xs)/\xs.length=ds.length/\∀(i:Nat) u e,xs[i]? = some u->ds[i]? = some e->DatE n H u e)\/
  (∃a xs ds,x=.ref a/\d=.tuple ds/\H a=some (.tup xs)/\xs.length=ds.length/\∀(i:Nat) u e,xs[i]? = some u->ds[i]? = some e->DatE n H u e)
theorem DatE.leaf{H:Hp}{x:V}{d:PyData}(h:pX x d):∀{n:Nat},DatE n H x d
 | 0=>h
 | n+1=>.inl h
theorem DatE.str{H:Hp}{n:Nat}{y:Str}(h:Gx y=true):DatE n H (.str y) (.str y):=DatE.leaf (.inr (.inr (.inr ⟨y,rfl,rfl,h⟩)))
theorem DatE.lst{H:Hp}{n:Nat}{a:Addr}{xs:List V}{ds:List PyData}(e:H a=some (.lst xs))(hl:xs.length=ds.length)(h:∀(i:Nat) u e,xs[i]? = some u->ds[i]? = some e->DatE n H u e):DatE (n+1) H (.ref a) (.list ds):=
 .inr (.inl ⟨a,xs,ds,rfl,rfl,e,hl,h⟩)
theorem DatE.facts{H:Hp}:∀{n:Nat}{x:V}{d:PyData},DatE n H x d->d.canLay0=true/\d.depth<=n
 | n,x,d,h=>by
  have hint:pX x d->d.canLay0=true/\d.depth<=n:=by
   rintro(⟨rfl,rfl⟩|⟨b,rfl,rfl⟩|⟨i,rfl,rfl⟩|⟨y,rfl,rfl,hy⟩)
   ·exact⟨rfl,Eo _⟩
   ·exact⟨rfl,Eo _⟩
   ·exact⟨rfl,Eo _⟩
   ·exact⟨hy,Eo _⟩
  match n,h with
  | 0,h=>exact hint h
  | n+1,h=>
   rcases h with h|⟨a,xs,ds,rfl,rfl,ha,hl,hi⟩|⟨a,xs,ds,rfl,rfl,ha,hl,hi⟩
   ·exact hint h
   ·have hd:∀d∈ds,d.canLay0=true/\d.depth<=n:=λd hd=>by
     obtain⟨i,e⟩:=F0 hd;have hlt:=bq e;exact DatE.facts (hi i (xs[i]'⋯) d (D9 _) e)
    exact⟨gn (P:=Me) (PA:=KZ) rfl (λ_ _=>rfl) λd h=>(hd d h).1,Gw (cC λd h=>(hd d h).2)⟩
   ·have hd:∀d∈ds,d.canLay0=true/\d.depth<=n:=λd hd=>by
     obtain⟨i,e⟩:=F0 hd;have hlt:=bq e;exact DatE.facts (hi i (xs[i]'⋯) d (D9 _) e)
    exact⟨gn (P:=Me) (PA:=KZ) rfl (λ_ _=>rfl) λd h=>(hd d h).1,Gw (cC λd h=>(hd d h).2)⟩
section
variable{X:Cx}{pins:List (Addr×Obj)}{σ:St}{H:Hp}{s:Shared}
theorem DatE.reads(I:Inv X pins σ H s):∀{n:Nat}{x:V}{d:PyData}{v:Value},DatE n H x d->RelV x v->∃as,Reads s.heap v d as
 | n,x,d,v,h,r=>by
  have hint:pX x d->∃as,Reads s.heap v d as:=by
   rintro(⟨rfl,rfl⟩|⟨b,rfl,rfl⟩|⟨i,rfl,rfl⟩|⟨y,rfl,rfl,_⟩)
   ·cases r;exact⟨_,.none⟩
   ·cases r;exact⟨_,.bool b⟩
   ·obtain⟨t,rfl⟩:=r;exact⟨_,.int i t⟩
   ·obtain⟨t,rfl⟩:=r;exact⟨_,.str y t⟩
  match n,h with
  | 0,h=>exact hint h
  | n+1,h=>
   rcases h with h|⟨a,xs,ds,rfl,rfl,ha,hl,hi⟩|⟨a,xs,ds,rfl,rfl,ha,hl,hi⟩
   ·exact hint h
   ·cases r
    obtain⟨its,m,rv,ho,hz⟩:=I.lst ha;obtain⟨as,h1⟩:=cD (R:=DatE n H) (λx v d h r=>DatE.reads I h r) rv hl hi;exact⟨_,.list ho rfl rfl (by simpa using h1)⟩
   ·cases r
    obtain⟨its,rv,⟨ob,ho,hc,m,hd⟩,hz⟩:=I.tuple (Of ha);obtain⟨as,h1⟩:=cD (R:=DatE n H) (λx v d h r=>DatE.reads I h r) rv hl hi;exact⟨_,.tuple ho hc hd (by simpa using h1)⟩
def Do:R2:=λx y H Q=>∃(n:Nat) (d e:PyData),DatE n H x d/\DatE n H y e/\n<=32/\Q (.bl (PyData.eqv d e)) H
theorem Ck(hu:X.A.units+64<cLine):QOp X (Ou .Eq) Do:=by
 refine⟨λpins s σ H x y v u Q I rx ry h=>?_⟩;obtain⟨n,d,e,hd,he,hn,q⟩:=h;obtain⟨as,r1⟩:=hd.reads I rx;obtain⟨bs,r2⟩:=he.reads I ry;have f1:=hd.facts;have f2:=he.facts;exact Mi r1 r2 f1.1 f2.1 (by have:=Nat.min_le_left d.depth e.depth;have:=f1.2;lia) ⟨.bl _,H,I,rfl,q⟩
end
section
variable{H:Hp}{Q:VK}{x y:V}{n:Nat}{d e:PyData}
theorem pY(h1:DatE n H x d)(h2:DatE n H y d)(hn:n<=32)(h:Q (.bl true) H):Do x y H Q:=⟨n,d,d,h1,h2,hn,by rw[Nz d h1.facts.1];exact h⟩
end
end L2
namespace HT
open PySem PyProof.Rows PySem.W L2
section
variable{prog:Program}{w:World}{A:Around}{E:Value->Shared->Prop}{s:Shared}
end
end HT
namespace L2
open PySem PySem.Spec PyProof.Rows PySem.W
section
variable{X:Cx}{e:Expr}{t:TA}{p pos kpos cp:Pos}{k:Nat}{j:Nat}
theorem zG{s:Shared}{Q:List Value->Shared->Prop}{a:Expr}(h:wpAny (model X.prog X.w) X.A (eval a X.env) (λv s'=>Q [v] s') E s):
  wpAny (model X.prog X.w) X.A (evalAll ((backToKw pos (keywordEach [⟨some x,a,kpos⟩] X.env)).map (·.2))) Q E s:=by
 show wpAny _ _ (evalAll ((do let v <-eval a X.env;standAt pos;pure v)::[])) _ _ s
 exact wpAny_evalAll_cons (On (Oy h (λv s' hq=>On (ON (Oq (wpAny_evalAll_nil hq)))) λ_ _ z=>z))
end
end L2
namespace L2
open PySem PySem.Spec PyProof.Rows
section
variable{qs:List (Nat×Nat)}{b:Nat}{st:HW}
end
section
variable{qs:List (Nat×Nat)}{b:Nat}{st:HW}
end
theorem cn{f g:Str}(v x:V)(r:List (Str×V))(h:¬g=f):bU f v ((g,x)::r)=(g,x)::bU f v r:=by rw[bU,if_neg h]
theorem jc{f:Str}{r:List (Str×V)}:FP f ((f,v)::r)=some v:=by simp[FP]
theorem dI{f g:Str}{r:List (Str×V)}(h:¬f=g):FP f ((g,v)::r)=FP f r:=by
 have:(f == g)=false:=by simpa using h
 simp[FP,this]
section
variable(pa:Addr)(hv v:V)(ma ea:Addr)(n m:Int)
end
section
variable{C:Addr}{H H1:Hp}{w pa ma ea:Addr}{vs:List V}{hv:V}{st:HW}
end
end L2
namespace HT
open PySem PyProof.Rows PySem.W L2
section
open PySem.SeqAt
open PySem.AutoSeq1 (wpAny_loadPart')
open PySem.MeetsSeq PySem.MeetsSeq2 PySem.MeetsSeq3
end
section
variable{prog:Program}{w:World}{A:Around}{E:Value->Shared->Prop}{s:Shared}
end
end HT
namespace L2
open PySem PySem.Spec PyProof.Rows
section
variable{X:Cx}
end
section
variable{prog:Program}{w:World}{A:Around}{R:Result->Shared->Prop}{s:Shared}{scope:Scope}
end
section
variable{X:Cx}{N tgs frs:List Str}{ix:List Nat}{scope:Scope}{cl:List (Str×Addr)}
end
section
variable{K:Ec}{g g2:TG}{wi2:TI}{te:TE}{σ0:St}{H:Hp}{R:List V->Hp->Prop}
end
inductive RMv where
 | take (p:Nat)
 | move (p q:Nat)
 | lay (p:Nat)
section
variable{H H1:Hp}{v y:V}{d:PyData}
variable{vs us rs:List V}{ds:List PyData}
end
section
variable(ta:Addr)(hv v:V)(pa:Addr)(n m:Int)
end
section
variable{C:Addr}{H H1:Hp}{w ta pa:Addr}{ps:List Addr}{us:List V}{hv:V}{ms:List RMv}{d:Nat}
end
section
variable{X:Cx}{e:Expr}{es:List Expr}{t:TA}{pos p:Pos}{x:Str}{C f:Addr}
end
end L2
namespace HT
open PySem PySem.Spec PyProof.Rows PySem.W L2
section
variable{prog:Program}{w:World}{A:Around}{E:Value->Shared->Prop}{s:Shared}
theorem pZ{t u:Tok}{Q:Bool->Shared->Prop}(h:Q (decide (x.cps.toList<y.cps.toList)) s):wpAny (model prog w) A (oneLt' true (.str x t) (.str y u)) Q E s:=by
 rw[oneLt'_eq];simp only[if_true];refine On (wpAny_cRoomFor_byValue rfl ?_);refine On (wpAny_callSpecialIfBound?_slot (OJ s x t) Kg ?_);refine wpAny_call_entry Kg (OJ s x t) PySem.F.entry_str_lt ?_ (PySem.F.args_str_lt_2 _ _);show wpAny _ _ (ret (.bool (decide (x.cps.toList<y.cps.toList)))) _ _ s
 exact Oq ⟨_,rfl,Oz h⟩
end
end HT
namespace L2
open PySem PySem.Spec PyProof.Rows
theorem iw:∀{ys:List Str}{us:List Value},Vals (ys.map Oh) us->StrsAre us ys
 | [],_,h=>by cases h;exact .nil
 | y::ys,_,h=>by
  cases h with
  | cons rv r=>obtain⟨t,rfl⟩:=rv;exact .cons y t (iw r)
section
variable{X:Cx}
end
theorem wL{a b:Str}(h:a.cps.toList=b.cps.toList):a=b:=by
 obtain⟨⟨x⟩⟩:=a;obtain⟨⟨y⟩⟩:=b;simp only at h;rw[h]
noncomputable def turn(r:List Nat):List Nat:=r.take 1++(r.drop 1).reverse
section
variable{H H1:Hp}{v y z:V}{d e:Option (List Nat×Nat)}
variable{vs us rs:List V}
end
section
variable{C:Addr}{H H1:Hp}{w ta pa:Addr}{ps:List Addr}{us:List V}{hv:V}{ms:List RMv}{d:Nat}
end
section
variable{H H1:Hp}{vs us:List V}{ds:List (List Nat×Nat)}{v:V}{d:List Nat×Nat}
end
section
variable{X:Cx}{e:Expr}{te:TE}{pos p1 p2 p3 p4 p5:Pos}{j j':Nat}
end
end L2
namespace HT
open PySem PyProof.Rows PySem.W L2
section
variable{prog:Program}{w:World}{A:Around}{E:Value->Shared->Prop}
def Dp(f:Nat->Int)(d v:Value)(n:Nat):Prop:=n=0/\v=d\/∃(i:Nat) (t:Tok),i<n/\v=.int (f i) t/\∀m,m<n->f m<=f i
theorem p6{I S:Addr}{wr:List Addr}{P:Nat->Value->Prop}{St:Nat->Heap->Prop}{d:Value}{R:Result->Shared->Prop}(f:Nat->Int)(W:Walks prog w A.in1 I fp wr n P St)(hf:∀i v,P i v->∃t,v=.int (f i) t)(hSf:S∉fp):
  ∀(k j:Nat) (s:Shared) (vb:List Value) (c:Nat),n - j=k->j<=n->St j s.heap->s.heap.get? S=some (OG "list" vb.toArray c)->
   (vb=[]/\j=0\/∃(i:Nat) (t:Tok),i<j/\vb=[.int (f i) t,.int (f i) t]/\∀m,m<j->f m<=f i)->
   (∀v h' tk,Dp f d v n->(∀b o,b∉wr->b≠S->s.heap.get? b=some o->h'.get? b=some o)->R (.ok (.ret v)) { s with heap:=h',toks:=tk })->
   codeAny (model prog w) A (.builtin "max.loop" ⟨[.ref I,.none,.ref S],[(EU "default",d)]⟩) R s:=by
 have hSw:S∉wr:=λz=>hSf (W.sub _ z)
 have nm:(toString "max"++toString ".loop" : String) = "max.loop":=by decide
 intro k
 induction k with
 | zero=>
  intro j s vb c hk hj hst hS hb hR;have hin:j=n:=by lia
  refine codeAny_builtin JK ?_;rw[J7 FQ _];show wpAny _ A.in1 (seqItems? (.ref S) >>= _) _ _ s
  refine On (wpAny_seqItems hS rfl ?_);show wpAny _ A.in1 (tryCatch (pyNext (.ref I)) _ >>= _) _ _ s
  refine On (wpAny_tryCatch (W.done s _ _ (hin▸hst) λh' tk kp=>?_));have hS1:=kp S _ hSw hS;rcases hb with⟨rfl,h0⟩|⟨i,t,hi,rfl,hm⟩
  ·refine On (wpAny_rule (Oq ?_))
   exact hR d _ tk (.inl ⟨by lia,rfl⟩) λb o q1 q2 e=>kp b o q1 e
  ·show wpAny _ A.in1 (updateSeq S (λ_=>#[]) >>= _) _ _ _
   refine On ?_;refine wpAny_updateSeq hS1 rfl (On (wpAny_letGo (Oq ?_)));exact hR _ _ tk (.inr ⟨i,t,by lia,rfl,λm q=>hm m ⋯⟩) λb o q1 q2 e=>(GE _ _ (E2 q2)).trans (kp b o q1 e)
 | succ k ih=>
  intro j s vb c hk hj hst hS hb hR;have hlt:j<n:=by lia
  refine codeAny_builtin JK ?_;rw[J7 FQ _];show wpAny _ A.in1 (seqItems? (.ref S) >>= _) _ _ s
  refine On (wpAny_seqItems hS rfl ?_);show wpAny _ A.in1 (tryCatch (pyNext (.ref I)) _ >>= _) _ _ s
  refine On (wpAny_tryCatch (W.item j s _ _ hlt hst λv h' tk hP st1 kp=>?_));obtain⟨tv,rfl⟩:=hf j v hP;have hS1:=kp S _ hSw hS;have upd1:∀(g:Array Value->Array Value) b (o:Obj),b≠S->h'.get? b=some o->(h'.update S (Fc g)).get? b=some o:=λg b o q e=>(GE _ _ (E2 q)).trans e
  rcases hb with⟨rfl,h0⟩|⟨i,t,hi,rfl,hm⟩
  ·show wpAny _ A.in1 (updateSeq S (λ_=>#[.int (f j) tv,.int (f j) tv]) >>= _) _ _ _
   refine On ?_;refine wpAny_updateSeq hS1 rfl ?_;rw[nm];obtain⟨c1,hc1⟩:∃c1,(h'.update S (Fc λ_=>#[.int (f j) tv,.int (f j) tv])).get? S=some (OG "list" [GP (f j) tv,GP (f j) tv].toArray c1):=⟨_,get?_update_seq hS1 λ_=>#[.int (f j) tv,.int (f j) tv]⟩
   refine Oq ⟨plainId_quiet FQ _,ih (j+1) _ _ c1 ⋯ hlt (W.frame _ _ _ st1 λb q o e=>upd1 _ b o (λz=>hSf (z▸q)) e) hc1 (.inr ⟨j,tv,by lia,rfl,λm q=>?_⟩) λv2 h2 tk2 q2 k2=>?_⟩
   ·have:m=j:=by lia
    rw[this];exact Ni _
   ·exact hR v2 h2 tk2 q2 λb o q3 q4 e=>k2 b o q3 q4 (upd1 _ b o q4 (kp b o q3 e))
  ·show wpAny _ A.in1 (tryCatch (OF [.int (f j) tv,.int (f j) tv] (richCompare .Gt (.int (f j) tv) (.int (f i) t) >>= _)) _ >>= _) _ _ _
   refine On (wpAny_tryCatch (OC (On (Mq (prog:=prog) (w:=w) (A:=A.in1) (P:=λi v=>∃t,v=.int (f i) t) f (λi v z=>z) j i _ _ _ _ _ ⟨tv,rfl⟩ ⟨t,rfl⟩ ?_))));refine On (OC (Oz ?_));refine On (wpAny_letGo (Oq ?_));by_cases hg:f j > f i
   ·simp only[hg,decide_true,if_true]
    refine On ?_;refine wpAny_updateSeq hS1 rfl (On (wpAny_letGo ?_));rw[nm];obtain⟨c1,hc1⟩:∃c1,(h'.update S (Fc λ_=>#[.int (f j) tv,.int (f j) tv])).get? S=some (OG "list" [GP (f j) tv,GP (f j) tv].toArray c1):=⟨_,get?_update_seq hS1 λ_=>#[.int (f j) tv,.int (f j) tv]⟩
    refine Oq ⟨plainId_quiet FQ _,ih (j+1) _ _ c1 ⋯ hlt (W.frame _ _ _ st1 λb q o e=>upd1 _ b o (λz=>hSf (z▸q)) e) hc1 (.inr ⟨j,tv,by lia,rfl,λm q=>?_⟩) λv2 h2 tk2 q2 k2=>?_⟩
    ·by_cases e:m=j
     ·rw[e];exact Ni _
     ·have:=hm m ⋯;lia
    ·exact hR v2 h2 tk2 q2 λb o q3 q4 e=>k2 b o q3 q4 (upd1 _ b o q4 (kp b o q3 e))
   ·simp only[hg,decide_false,Fq,if_false]
    refine On (wpAny_letGo ?_);rw[nm];refine Oq ⟨plainId_quiet FQ _,ih (j+1) _ _ c ⋯ hlt st1 hS1 (.inr ⟨i,t,by lia,rfl,λm q=>?_⟩) λv2 h2 tk2 q2 k2=>?_⟩
    ·by_cases e:m=j
     ·rw[e];lia
     ·exact hm m ⋯
    ·exact hR v2 h2 tk2 q2 λb o q3 q4 e=>k2 b o q3 q4 (kp b o q3 e)
theorem kc (a v:Value):argsOk "max" ⟨[a],[(EU "default",v)]⟩:=by unfold argsOk;kernel_rfl
theorem wM{s:Shared}{d:Value}{Q:Value->Shared->Prop}(f:Nat->Int)(hh:A.handled=none)(hl:s.heap.IsList l its.toArray)(hf:∀(i:Nat) (v:Value),its[i]? = some v->∃t,v=.int (f i) t)
  (h:∀v h' tk,Dp f d v its.length->(∀b o,s.heap.get? b=some o->h'.get? b=some o)->Q v { s with heap:=h',toks:=tk }) :
  wpAny (model prog w) A (call (.builtin "max") [.ref l] [(EU "default",d)]) Q E s:=by
 have nm:(toString "max"++toString ".loop" : String) = "max.loop":=by decide
 have hll:l<s.heap.objs.size:=by obtain⟨_,e,_⟩:=id hl;exact Ew e
 refine kmk_tree PySem.F.kind_max PySem.F.plain_max PySem.F.entry_max (kc _ _) ?_;show wpAny _ A.in1 (IE "max" ["key","default"] 0 ⟨[],[(EU "default",d)]⟩ >>= _) _ _ s
 refine On (wpAny_of_eq (show IE "max" ["key","default"] 0 ⟨[],[(EU "default",d)]⟩=pure [none,some d]from rfl) ?_);refine On (Oq ?_);refine On (wpAny_pyIter_list hl ?_);refine On (wpAny_newList ?_ (Eo _));rw[nm];have hS:(s.heap.push { cls:=.type "list_iterator",data:=.fields #[.ref l,.int 0 0] }).objs.size=s.heap.objs.size+1:=size_push' ..;have W:=Nu (prog:=prog) (w:=w) (A:=A.in1) hh s.heap.objs.size l (EK hll) its.toArray;have ez:its.toArray.size=its.length:=Et ..;rw[ez]at W;have hll1:((s.heap.push { cls:=.type "list_iterator",data:=.fields #[.ref l,.int 0 0] }).push (OG "list" #[] 0)).IsList l its.toArray:=by
  obtain⟨o,e,r⟩:=hl;exact⟨o,El _ (El _ e),r⟩
 have hf1:∀(i:Nat) (v:Value),its.toArray[i]? = some v->∃t,v=.int (f i) t:=λi v hv=>hf i v (by simpa using hv)
 refine Oq ⟨plainId_quiet FQ _,p6 f W hf1 (S:=(s.heap.push { cls:=.type "list_iterator",data:=.fields #[.ref l,.int 0 0] }).objs.size) ?_ its.length 0 _ [] 0 ⋯ (Eo _) ⟨⟨_,El _ (EH _ rfl),rfl,rfl⟩,hll1⟩ (EH _ rfl) (.inl ⟨rfl,rfl⟩) λv h' tk q kp=>?_⟩
 ·rw[hS]
  intro z;simp only[EA,EZ,or_false]at z;rcases z with z|z
  ·exact absurd z (Lg _)
  ·rw[<-z]at hll;exact absurd hll (Nat.not_lt_of_le (GV _))
 ·refine h v h' tk q λb o e=>kp b o ?_ ?_ (El _ (El _ e))
  ·intro z
   have e2:b=s.heap.objs.size:=by simpa using z
   exact absurd (e2▸Ew e) (FC _)
  ·rw[hS]
   have:=Ew e;exact EK (Gm this)
end
end HT
namespace L2
open PySem PySem.Spec PyProof.Rows PySem.W
section
variable{X:Cx}
theorem wN:QIx X By:=⟨uv⟩
theorem uJ:QC X (.builtin "ord") (λxs H Q=>∃x,xs=[.str x]/\x.length=1/\Q (.int (x.cps.getD 0 0:Nat)) H):=⟨rm⟩
theorem b5:QC X (.builtin "len") (λxs H Q=>∃z,xs=[.str z]/\z.length<=Oo/\Q (.int z.length) H):=⟨jE⟩
theorem bN (hg:Gl X x) (hm:X.mg x=some u) (r:RelV v u) (hd:(x == ("__debug__" : Str))=false:=by decide):QE X (.Name x pos) (tC v):=⟨ve hg hm r hd⟩
def DT:V->Option Int->Option Int->Hp->VK->Prop:=λx lo hi H Q=>∃z,x=.str z/\z.length<=Oo/\Q (.str (JA z lo hi)) H
theorem mL{v:Value}{o:Option Int}(h:IsPart v o):∃l:Option (Int×Tok),v=partValue l/\l.map (·.1)=o:=by
 cases h with
 | none=>exact⟨none,rfl,rfl⟩
 | int i t=>exact⟨some (i,t),rfl,rfl⟩
theorem zH:QSl X DT:=by
 refine⟨?_⟩;intro pins s σ H x v vl vu lo hi sl Q I rx hs pl pu h;obtain⟨z,rfl,hz,q⟩:=h;obtain⟨t,rfl⟩:=rx;obtain⟨l,rfl,rfl⟩:=mL pl;obtain⟨u,rfl,rfl⟩:=mL pu;refine⟨"str",_,PySem.F.slot_str_getitem.lookup,OJ _ _ _,wpAny_getItem_str_slice (l:=l) (u:=u) (st:=none) hs rfl (post_val_or_str ⟨E5 (Txt.slice_le z _ _) hz,λt' k=>?_⟩)⟩;exact⟨.str (JA z (l.map (·.1)) (u.map (·.1))),H,I.tok k,⟨t',rfl⟩,q⟩
theorem uK:QOp X (OB .Mult) (λx y H Q=>∃z n,x=.str z/\y=.int n/\MulOk z n/\Q (.str (Jb z n)) H):=by
 refine⟨λpins s σ H x y v u Q I rx ry h=>?_⟩;obtain⟨z,n,rfl,rfl,hm,q⟩:=h;obtain⟨t,rfl⟩:=rx;obtain⟨t',rfl⟩:=ry;exact SB.mul hm λt2 k=>⟨.str (Jb z n),H,I.tok k,⟨t2,rfl⟩,q⟩
def Its(z:Str):It:=⟨λi _=>i<z.cps.size,λi H x H'=>H'=H/\∃c,z.cps[i]? = some c/\x=.str ⟨#[c]⟩,λi _=>i=z.cps.size⟩
theorem mM {w:World}{K:Ec}{T:String}(hT:["enumerate","zip","dict_itemiterator","dict_reverseitemiterator","odict_iterator","itertools.zip_longest","itertools.pairwise"].contains T=false) (it:Addr) (z:Str) (t:Tok)
  (W:∀A:Around,A.handled=none->Walks P w A it [it] [it] z.cps.size (SignAt z) (λi h=>h.IsStrIter it T z t i))
  (hself:∀(A:Around) (i:Nat) (s:Shared) (Q:Value->Shared->Prop) (E:Value->Shared->Prop),s.heap.IsStrIter it T z t i->Q (.ref it) s->wpAny (model P w) A (pyIter (.ref it)) Q E s) :
  Turn P w K tg (Its z) [it] it (λi h=>h.IsStrIter it T z t i) where
 mem:=by simp
 obj:=λi h st b hb=>by
  have e:b=it:=by simpa using hb
  subst e;obtain⟨o,e,c,d⟩:=st;exact⟨o,e,λv q=>by rw[d]at q;cases q⟩
 keep:=λi h h' st k=>by
  obtain⟨o,e,r⟩:=st;exact⟨o,k it (by simp) o e,r⟩
 item:=by
  intro X hP hw hK hc i pins s σ H E I hf st hg;subst hP hw hK;obtain⟨f0,f1,f2,f3,f4,f5⟩:=hf it (by simp);refine(W X.A (I.ok.hd hc)).item i s _ _ hg st λv h' tk hv st' kk=>?_
  obtain⟨c,u,hcc,rfl⟩:=hv;have I1:Inv X pins σ H { s with heap:=h',toks:=tk }:=I.turned (λb o hb e=>kk b o (by simpa using hb) e) f0 f1 f3 f4 f5;obtain⟨o,e,cl,d⟩:=id st';exact⟨_,rfl,nk (s:={ s with heap:=h',toks:=tk }) e cl d hT ⟨.str ⟨#[c]⟩,H,I1,⟨u,rfl⟩,⟨rfl,c,hcc,rfl⟩,st',λb hb=>(hf b hb).1⟩⟩
 done:=by
  intro X hP hw hK hc i pins s σ H E I hf st hg;subst hP hw hK;obtain⟨f0,f1,f2,f3,f4,f5⟩:=hf it (by simp);have e:i=z.cps.size:=hg;subst e;exact(W X.A (I.ok.hd hc)).done s _ _ st λh' tk kk=>⟨rfl,I.turned (λb o hb e=>kk b o (by simpa using hb) e) f0 f1 f3 f4 f5⟩
 self:=λA i s Q E st h=>hself A i s Q E st h
def Dq(te:TE):TI:=λσ H R=>te σ H λx H1=>∃z,x=.str z/\R (Its z) H1
theorem uL{te:TE}(hl:QE X e te):QI X tg e (Dq te):=by
 refine⟨λpins s σ H R I h=>?_⟩;refine thn (hl.out pins s σ H _ I h) λv s1 ⟨x,H1,I1,r1,q1⟩=>?_
 obtain⟨z,rfl,q⟩:=q1;obtain⟨t,rfl⟩:=r1;have fin:∀(T:String) (o:Obj),(s1.heap.push o).IsStrIter s1.heap.objs.size T z t 0->Turn X.prog X.w X.K tg (Its z) [s1.heap.objs.size] s1.heap.objs.size (λi h=>h.IsStrIter s1.heap.objs.size T z t i)->
   PIE X pins σ tg R (.ref s1.heap.objs.size) { s1 with heap:=s1.heap.push o }:=by
  intro T o h0 hT;refine⟨s1.heap.objs.size,[s1.heap.objs.size],_,_,H1,rfl,I1.kept (t':=s1.toks) λb ob e=>El _ e,hT,h0,λb hb=>?_,q⟩;have e:b=s1.heap.objs.size:=by simpa using hb
  subst e;exact I1.fpOk (Ed _) (I1.hok.fresh (Ed _))
 cases ha:z.cps.all (· < 128)
 ·exact wpAny_pyIter_wide ha (fin "str_iterator" _ ⟨_,EH _ rfl,rfl,rfl⟩ (mM (by decide) _ z t (λA hh=>Walks.strWide hh _ z t) λA i s Q E st h=>wpAny_pyIter_striter_wide st h))
 ·exact wpAny_pyIter_ascii ha (fin "str_ascii_iterator" _ ⟨_,EH _ rfl,rfl,rfl⟩ (mM (by decide) _ z t (λA hh=>Walks.strAscii hh _ z t) λA i s Q E st h=>wpAny_pyIter_striter_ascii st h))
theorem Cm{H:Hp}{te:TE}{R:It->Hp->Prop}(h:te σ H λx H1=>∃z,x=.str z/\R (Its z) H1):Dq te σ H R:=h
variable{o e:Expr}{to:TE}{t:TA}{apos cpos:Pos}
def zI(K:Ec)(d:Int)(t:TA):TE:=λσ H Q=>t σ H λvs H1=>∃(l:Addr) (ns:List Int),vs=[.ref l]/\SqL K H1 l (ns.map Og)/\∀m:Int,(ns=[]/\m=d\/m∈ns/\∀a∈ns,a<=m)->Q (.int m) H1
theorem p7 {K:Ec}{p kpos cp:Pos}{d:Int}(hc:X.calm=true) (hg:Gl X "max") (hm:X.mg "max" = none) (ha:QA X [e] t) (hn:bK e=true:=by rfl) (hK:X.K=K:=by rfl):QE X (.Call (.Name "max" p) [e] [⟨some "default",.Constant (.int d) j cp,kpos⟩] pos) (zI K d t):=by
 subst hK;refine⟨λpins s σ H Q I h=>?_⟩;refine OH (dr I hg hm (by decide +kernel:bootBuiltins "max" = some (.builtin "max")) ?_);have he1:Ot [e] X.env=[(false,eval e X.env)]:=aL hn;refine callWith_kw (thn (ha.out pos pins s σ H _ I h) λus s1 hu=>?_) (by rw[he1];rfl) (by rw[he1];rfl);obtain⟨vs,H1,I1,r1,l,ns,rfl,hq,q⟩:=hu;obtain⟨u,rfl,ru⟩:=cx r1;cases ru;refine zG (wpAny_Constant_int ?_);obtain⟨its,rv,pl,hz⟩:=I1.list hq;have hi:=bY rv;have hl:its.length=ns.length:=hi.length;refine HT.wM (λi=>ns.getD i 0) (I.ok.hd hc) (s:={ s1 with toks:=s1.toks+1 }) pl.isList (λi v hv=>?_) λv h' tk hmx kp=>?_
 ·obtain⟨t1,e1⟩:=HT.wI hi (i:=i) (Ei.mp hv).1
  rw[Eb,hv]at e1;exact⟨t1,e1⟩
 ·have I2:Inv X pins σ H1 { s1 with heap:=h',toks:=tk }:=I1.kept (t':=tk) kp
  rcases hmx with⟨h0,rfl⟩|⟨i,t1,hi1,rfl,hm1⟩
  ·exact⟨.int d,H1,I2,⟨_,rfl⟩,q d (.inl ⟨List.eq_nil_of_length_eq_zero ⋯,rfl⟩)⟩
  ·refine⟨.int (ns.getD i 0),H1,I2,⟨t1,rfl⟩,q _ (.inr ⟨?_,λa ha=>?_⟩)⟩
   ·rw[Eb,D9 ⋯]
    exact Es _
   ·obtain⟨m,hm2,rfl⟩:=GR.mp ha
    have:=hm1 m ⋯;dsimp only at this;rw[Eb (l:=ns) (i:=m),D9 hm2]at this;exact this
theorem Cn{K:Ec}{d:Int}{H:Hp}(h:t σ H λvs H1=>∃(l:Addr) (ns:List Int),vs=[.ref l]/\SqL K H1 l (ns.map Og)/\∀m:Int,(ns=[]/\m=d\/m∈ns/\∀a∈ns,a<=m)->Q (.int m) H1):zI K d t σ H Q:=h
end
section
variable{X:Cx}
end
theorem p8(z b m:Nat):dg z b (m+1)=((z / b ^ m % b:Nat):Int)::dg z b m:=by
 unfold dg;rw[List.range_succ_eq_map,E1,FD];congr 1;apply Im;intro j hj;have:=ER.mp hj;show((z / b ^ (m+1 - 1 - (j+1)) % b:Nat):Int)=_
 rw[show m+1 - 1 - (j+1)=m - 1 - j by lia]
theorem uM{b:Nat}(hb:2<=b)(z y:Nat):∀m,HT.bG (dg z b m) (dg y b m)=decide (z % b ^ m<y % b ^ m)
 | 0=>by simp[dg,HT.eE,Nat.mod_one]
 | m+1=>by
  rw[p8,p8,HT.aX,uM hb z y m];have hp:0<b ^ m:=JI ⋯;have ez:z % b ^ (m+1)=z % b ^ m+b ^ m*(z / b ^ m % b):=by rw[Ia,Nj]
  have ey:y % b ^ (m+1)=y % b ^ m+b ^ m*(y / b ^ m % b):=by rw[Ia,Nj]
  rw[ez,ey];have h1:z % b ^ m<b ^ m:=Ig _ hp;have h2:y % b ^ m<b ^ m:=Ig _ hp;generalize z / b ^ m % b=q at *;generalize y / b ^ m % b=r at *;generalize z % b ^ m=u at *;generalize y % b ^ m=v at *;generalize b ^ m=p at *;by_cases e:q=r
  ·subst e
   rw[if_pos rfl];congr 1;apply propext;constructor<;>intro h<;>lia
  ·rw[if_neg ⋯]
   congr 1;apply propext;constructor
   ·intro h
    have h3:q+1<=r:=by lia
    have h4:p*(q+1)<=p*r:=Io p h3;rw[JJ,K5]at h4;lia
   ·intro h
    apply MF;intro g;have h3:r+1<=q:=by lia
    have h4:p*(r+1)<=p*q:=Io p h3;rw[JJ,K5]at h4;lia
theorem Spelt.lex{ns:List Int}(h:Spelt ns b zs m)(hb:2<=b){x y:Int}{z w:Nat}(hx:ns[i]? = some x)(hy:ns[j]? = some y)(hz:zs[i]? = some z)(hw:zs[j]? = some w):
  HT.bG (dg z b m) (dg w b m)=decide (x<y):=by
 obtain⟨h1,h2⟩:=h.at hb hx hz;obtain⟨h3,h4⟩:=h.at hb hy hw;rw[uM hb,Lm h1,Lm h3];obtain⟨lo,l1,l2⟩:∃lo,lo∈ns/\∀y∈ns,lo<=y:=by
  rcases h with⟨rfl,_,_⟩|⟨lo,hi,q1,_,q3,_⟩
  ·simp at hx
  ·exact⟨lo,q1,λy hy=>(q3 y hy).1⟩
 have e1:=h2 lo l1 l2;have e2:=h4 lo l1 l2;congr 1;apply propext;constructor<;>intro h<;>lia
theorem p9{tb:List (Int×Nat)}(hb:∀z∈tb,1<=z.2/\z.2<=60){z w:Int×Nat}{x y:Int}(hz:tb[i]? = some z)(hw:tb[j]? = some w)(hx:(bH tb)[i]? = some x)(hy:(bH tb)[j]? = some y):
  x<y↔z.1*(w.2:Int)<w.1*(z.2:Int):=by
 unfold bH at hx hy;rw[Eh,hz]at hx;rw[Eh,hw]at hy;have ex:z.1*((d6 (tb.map (·.2)) / z.2:Nat):Int)=x:=EE hx;have ey:w.1*((d6 (tb.map (·.2)) / w.2:Nat):Int)=y:=EE hy;clear hx hy;have hzm:=Ez hz;have hwm:=Ez hw;have d1:z.2∣d6 (tb.map (·.2)):=mr (EC.mpr ⟨z,hzm,rfl⟩);have d2:w.2∣d6 (tb.map (·.2)):=mr (EC.mpr ⟨w,hwm,rfl⟩);have hL:0<d6 (tb.map (·.2)):=mv λb h=>by
  obtain⟨z,hz,rfl⟩:=EC.mp h;exact hb z hz
 have p1:=(hb z hzm).1;have p2:=(hb w hwm).1;generalize d6 (tb.map (·.2))=L at *;obtain⟨k,rfl⟩:=d1;obtain⟨l,hl⟩:=d2;rw[Hh _ ⋯]at ex;rw[hl,Hh _ ⋯]at ey;subst ex ey;have hk:0<k:=Jq hL;have hl0:0<l:=Jq (hl▸hL);have hc:(z.2:Int)*(k:Int)=(w.2:Int)*(l:Int):=by rw[<-Ih,<-Ih,hl]
 have zp:(0:Int)<z.2:=by lia
 have wp:(0:Int)<w.2:=by lia
 have kp:(0:Int)<k:=by lia
 have hzk:(0:Int)<(z.2:Int)*(k:Int):=JL zp kp
 -- both sides times z.2*w.2
 have e1:z.1*(k:Int)*((z.2:Int)*(w.2:Int))=z.1*(w.2:Int)*((z.2:Int)*(k:Int)):=by
  simp only[IQ,Jm,Ho]
 have e2:w.1*(l:Int)*((z.2:Int)*(w.2:Int))=w.1*(z.2:Int)*((z.2:Int)*(k:Int)):=by
  rw[hc];simp only[IQ,Jm,Ho]
 constructor
 ·intro h
  have:=Gh h (JL zp wp);rw[e1,e2]at this;exact Gk this (HZ hzk)
 ·intro h
  have:=Gh h hzk;rw[<-e1,<-e2]at this;exact Gk this (HZ (JL zp wp))
theorem uN:∀(a b:List Nat) (m:Nat),(∀c∈a,97<=c)->(∀c∈b,97<=c)->a.length<=m->b.length<=m->
  HT.bG (a.map (λc=>((c:Nat):Int) - 96)++Er (m - a.length) 0) (b.map (λc=>((c:Nat):Int) - 96)++Er (m - b.length) 0)=decide (a<b)
 | [],[],m,_,_,_,_=>by
  have e:∀n,HT.bG (Er n (0:Int)) (Er n 0)=false:=λn=>by
   induction n with
   | zero=>rfl
   | succ n ih=>rw[Fm,HT.aX,if_pos rfl];exact ih
  simp only[Jf,HY];rw[e];exact(decide_eq_false (Hf _)).symm
 | [],c::b,m,_,hb,_,hm=>by
  obtain⟨k,rfl⟩:∃k,m=k+1:=⟨m - 1,by simp at hm;lia⟩
  have:=hb c (EL ..);show HT.bG (Er (k+1) 0) (((c:Int) - 96)::_)=_
  rw[Fm,HT.aX,if_neg ⋯,decide_eq_true ⋯];exact(decide_eq_true (List.nil_lt_cons c b)).symm
 | c::a,[],m,ha,_,hm,_=>by
  obtain⟨k,rfl⟩:∃k,m=k+1:=⟨m - 1,by simp at hm;lia⟩
  have:=ha c (EL ..);show HT.bG (((c:Int) - 96)::_) (Er (k+1) 0)=_
  rw[Fm,HT.aX,if_neg ⋯,decide_eq_false ⋯];exact(decide_eq_false (λh=>nomatch h)).symm
 | c::a,d::b,m,ha,hb,h1,h2=>by
  obtain⟨k,rfl⟩:∃k,m=k+1:=⟨m - 1,by simp at h1;lia⟩
  have ih:=uN a b k (λx h=>ha x (Eu _ h)) (λx h=>hb x (Eu _ h)) (by simpa using h1) (by simpa using h2);have e1:k+1 - (c::a).length=k - a.length:=by simp
  have e2:k+1 - (d::b).length=k - b.length:=by simp
  rw[e1,e2,E1,E1,Jl,Jl,HT.aX];by_cases e:c=d
  ·subst e
   rw[if_pos rfl,ih];congr 1;apply propext;rw[JV];constructor
   ·exact λh=>.inr ⟨rfl,h⟩
   ·rintro(h|⟨_,h⟩)
    ·exact absurd h (FC _)
    ·exact h
  ·rw[if_neg ⋯]
   congr 1;apply propext;rw[JV];constructor
   ·intro h;exact .inl ⋯
   ·rintro(h|⟨h,_⟩)
    ·lia
    ·exact absurd h e
end L2
namespace HT
open PySem PyProof.Rows PySem.W L2
section
variable{prog:Program}{w:World}{A:Around}{E:Value->Shared->Prop}{s:Shared}
end
section
variable{prog:Program}{w:World}{A:Around}{E:Value->Shared->Prop}{s:Shared}
end
end HT
namespace L2
open PySem PySem.Spec PyProof.Rows PySem.W
section
variable{X:Cx}{pins:List (Addr×Obj)}{σ:St}{H:Hp}{s:Shared}{h':Heap}
end
section
variable{X:Cx}{o e f:Expr}{td ty tx:TE}{pos apos cpos p:Pos}
end
end L2
namespace HT
open PySem PyProof.Rows PySem.W L2
section
variable{prog:Program}{w:World}{A:Around}{E:Value->Shared->Prop}{s:Shared}
end
section
variable{prog:Program}{w:World}{A:Around}{E:Value->Shared->Prop}{s:Shared}
end
section
variable{prog:Program}{w:World}{A:Around}{E:Value->Shared->Prop}{s:Shared}
end
section
variable{prog:Program}{w:World}{A:Around}{E:Value->Shared->Prop}{s:Shared}
end
end HT
namespace L2
open PySem PySem.Spec PyProof.Rows PySem.W
section
variable{X:Cx}{e:Expr}{t:TA}{p p2 pos pos2:Pos}{pins:List (Addr×Obj)}{σ:St}{H:Hp}{s:Shared}
end
section
variable{X:Cx}
end
def zJ(K:Frag)(P:Params)(d:Addr)(kfs:List (Str×Addr)):Prop:=
 ∃(ts:List Tok) (ep:Nat),ts.length=kfs.length/\K.lookup d=some ⟨.type "dict",none,.dict ((kfs.zip ts).map λp=>(⟨EY P p.1.1,.str p.1.1 p.2,.ref p.1.2⟩:DictEntry)).toArray ep,#[]⟩
def DU(d:Addr)(kfs:List (Str×Addr)):R2:=λx y H Q=>∃z f,x=.ref d/\y=.str z/\kfs.lookup z=some f/\Q (.ref f) H
theorem mN{P:Params}{z:Str}{f:Addr}:∀(kfs:List (Str×Addr)) (ts:List Tok),ts.length=kfs.length->kfs.lookup z=some f->
  (((kfs.zip ts).map λp=>(⟨EY P p.1.1,.str p.1.1 p.2,.ref p.1.2⟩:DictEntry)).find? λe=>Fk z e.key).map (·.val)=some (.ref f)
 | [],_,_,h=>by cases h
 | (y,g)::kfs,[],hl,_=>by cases hl
 | (y,g)::kfs,t::ts,hl,h=>by
  rw[FL,E1,LZ];rw[E8]at h;by_cases e:z=y
  ·subst e
   rw[beq_self_eq_true]at h;cases h;have:Fk z (GC z t)=true:=by simp[Fk]
   simp only[this];rfl
  ·rw[beq_false_of_ne e]at h
   have:Fk z (GC y t)=false:=by
    simp only[Fk]
    first
     | exact beq_false_of_ne e
     | exact beq_false_of_ne (E2 e)
     | simpa using e
     | simpa using E2 e
   simp only[this];exact mN kfs ts (by simpa using hl) h
section
variable{X:Cx}
theorem zK{d:Addr}{kfs:List (Str×Addr)}(hd:zJ X.K X.w.params d kfs):QIx X (DU d kfs):=by
 refine⟨λvalue slice pins s σ H x y v u Q I rx ry h hs=>?_⟩;obtain⟨z,f,rfl,rfl,hl,q⟩:=h;cases rx;obtain⟨t,rfl⟩:=ry;obtain⟨ts,ep,hts,hK⟩:=hd;have ho:=I.kIn _ _ hK;have hm:s.heap.MapOf (FN X.prog X.w) d (λk=>findBy (FN X.prog X.w).is ((kfs.zip ts).map λp=>(⟨EY X.w.params p.1.1,.str p.1.1 p.2,.ref p.1.2⟩:DictEntry)).toArray k):=by
  refine⟨_,_,ep,ho,⟨rfl,rfl,rfl⟩,rfl,λe he=>?_,λ_=>rfl⟩;obtain⟨p,hp,rfl⟩:=EC.mp (Ln.mp he);exact⟨p.1.1,by simp[FN,Fk],rfl⟩
 refine subscriptTail_builtinR (x:=.ref f) hm.typeIs slot_dict_getitem.lookup (wpAny_getItem_of (Q:=λr s'=>r=.ref f/\EP X pins σ Q r s') (knd:=FN X.prog X.w) (k:=z) (by simp[FN,Fk]) hm (v:=.ref f) ?_ ⟨rfl,.ref f,H,I.tok _,rfl,q⟩) hs;show findBy _ _ _=_
 unfold findBy;rw[Kz];exact mN kfs ts hts hl
def uO(R:V->Sp->Prop)(E:XK)(tf:TE)(t:TA):TE:=λσ H Q=>tf σ H λv H1=>∃sp,R v sp/\t σ H1 λvs H2=>sp vs H2 Q E
theorem mO{R:V->Sp->Prop}{E:XK}{tf:TE}{p:Pos}{es:List Expr}(hf:QE X (.Name x p) tf)
  (hR:∀v sp,R v sp->∃f fd ps CX k,v=.ref f/\FnOk X.prog X.w X.K X.mg X.base CX k f fd ps sp/\Room k X.A/\FU X.K (.ref f)=true/\Binds X.K fd ps []/\eD CX X E)
  (ha:QA X (e::es) t) (hn:(e::es).all bK=true:=by rfl):QE X (.Call (.Name x p) (e::es) [] pos) (uO R E tf t):=by
 rw[GB,Fu]at hn;refine⟨λpins s σ H Q I h=>?_⟩;refine OH (thn (hf.out pins s σ H _ I h) λu s1 hu=>?_);obtain⟨v,H1,I1,ru,sp,hr,q⟩:=hu;obtain⟨f,fd,ps,CX,k,rfl,F,hro,hk,hb,hx⟩:=hR v sp hr;cases ru;refine Iv (h₀:=X.base) I1.ok.mod.kin hk (thn (ha.out pos pins s1 σ H1 _ I1 q) λus s2 hu=>?_) (aL hn.1) (eG hn.2);obtain⟨vs,H2,I2,r,q⟩:=hu;exact⟨I2.kIn,ur (dvs:=[]) (ds:=[]) F hro hb .nil hx I2 r (by rw[Fl];exact q)⟩
theorem AS{R:V->Sp->Prop}{E:XK}{tf:TE}{H:Hp}(h:tf σ H λv H1=>∃sp,R v sp/\t σ H1 λvs H2=>sp vs H2 Q E):uO R E tf t σ H Q:=h
def zL(K:Frag):V->List V->Hp->VK->Prop:=λx xs H Q=>∃z l ys,x=.str z/\xs=[.ref l]/\SqL K H l (ys.map Oh)/\(ys.map (·.length)).sum+ys.length*z.length<=16777216/\Q (.str (GF z ys)) H
theorem wO:MtR X "str.join" (zL X.K):=by
 intro pins s σ H x xs v us Q I rx rs h;obtain⟨z,l,ys,rfl,rfl,hq,hs,q⟩:=h;obtain⟨t,rfl⟩:=rx;obtain⟨u,rfl,ru⟩:=cx rs;cases ru;obtain⟨its,rv,pl,hz⟩:=I.list hq;exact join_list pl.isList (iw (by simpa using rv)) hs λt' k=>⟨.str (GF z ys),H,I.tok k,⟨_,rfl⟩,q⟩
variable{o e:Expr}{to:TE}{t:TA}{apos cpos:Pos}
theorem jd {K:Ec}(ho:QE X o to) (ha:QA X [e] t) (hbase:Ow o ("join" : Str) X.env (eval o X.env)=eval o X.env:=by rfl) (hline:(apos.endLine == cpos.line)=true:=by rfl) (hn:bK e=true:=by rfl) (hK:X.K=K:=by rfl) :
  QE X (.Call (.Attribute o "join" apos) [e] [] cpos) (tBM K "str" (zL K) to t):=by subst hK;exact⟨fw Gd PySem.F.slot_str_join PySem.F.type_str_join wO ho.out ha.out hbase hline hn⟩
end
section
variable{X:Cx}{pins:List (Addr×Obj)}{σ:St}{H:Hp}{s:Shared}
variable{N frs:List Str}{x qual:Str}{ix:List Nat}{scope:Scope}{cl:List (Str×Addr)}{params:Arguments}{body:Expr}
section
variable{te:TE}{t:TA}{p pos kpos lpos:Pos}{e:Expr}{k:Nat}{cc P:Addr}
end
end
end L2
namespace L2
open PySem PySem.Spec PyProof.Rows
section
variable{qs:List (Nat×Nat)}{b:Nat}{st:HW}
end
section
variable{X:Cx}{o e f:Expr}{td ty tx:TE}{pos apos cpos p:Pos}
end
section
variable{X:Cx}{o tg:Expr}{td:TE}{pos apos cpos p:Pos}
end
end L2
namespace HT
open PySem PyProof.Rows PySem.W L2
section
variable{prog:Program}{w:World}{A:Around}{E:Value->Shared->Prop}{s:Shared}
end
end HT
namespace L2
open PySem PySem.Spec PyProof.Rows
section
variable{X:Cx}
end
section
variable{X:Cx}{N tgs frs:List Str}{ix:List Nat}{scope:Scope}{cl:List (Str×Addr)}{xc:Str}
end
end L2
namespace HT
open PySem PyProof.Rows PySem.W L2
section
variable{prog:Program}{w:World}{A:Around}{E:Value->Shared->Prop}{h:Heap}{g:Array GenState}{d:Drawn}{t:Nat}{os:OsState}
variable{nm q:Str}{C N f:Addr}{bs bm bmB:List Value}{hdct:Bool}{sn:List Str}{sub:List Value}{ab:Bool}{col:Option Bool}{dd:Option Addr}{k0 k1 k2 k3 k5:Option Value}{B Bn newId nid initId inN:String}{bmN:List Value}
end
section
variable{M:Model}{A:Around}{E:Value->Shared->Prop}{env:Env}
variable{nm q:Str}{C N:Addr}{bs bm:List Value}{hdct:Bool}{sn:List Str}{sub:List Value}{ab:Bool}{col:Option Bool}{dd:Option Addr}{k0 k1 k2 k3 k5:Option Value}{newId:String}
end
end HT
namespace L2
open PySem PySem.Spec PyProof.Rows
section
variable{P:Program}{w:World}{K:Ec}{mg:Str->Option Value}{base:Heap}{N:List Str}{qual:Str}{scope:Scope}{f:Addr}{cd:Value}{A:Around}{outer:List Env}{s0:Shared}{H0:Hp}{E:XK}
end
end L2
namespace HT
open PySem PyProof.Rows PySem.W L2
section
variable{prog:Program}{w:World}{A:Around}{E:Value->Shared->Prop}{h:Heap}{g:Array GenState}{d:Drawn}{t:Nat}{os:OsState}
variable{C f e t0:Addr}{K:Frag}{dx:Option Addr}{u:Value}
end
end HT
namespace L2
open PySem PySem.Spec PyProof.Rows PySem.W
section
variable{X:Cx}{o value e:Expr}{es:List Expr}{f x:Str}{pos pos' apos np:Pos}{ta tv:TE}{t:TA}{S:Addr}
end
section
variable{X:Cx}{pins:List (Addr×Obj)}{σ:St}{H:Hp}{s:Shared}
end
section
variable{X:Cx}{e:Expr}{es:List Expr}{t:TA}{np cpos pos p:Pos}{x:Str}{C f:Addr}
end
end L2
namespace HT
open PySem PyProof.Rows PySem.W L2
end HT
namespace L2
open PySem PySem.Spec PyProof.Rows PySem.W
section
variable{D:Ends}{Ex:XW}{σ:St}{H:Hp}{Q:VK}{K:Frag}{C:Addr}{t:TA}{ta tv:TE}{f:Str}{sp:Sp}{E:XK}
end
end L2
namespace L2
open PySem PySem.Spec PyProof.Rows
section
variable{X:Cx}
end
end L2
namespace L2
open PySem PySem.Spec PyProof.Rows PySem.Builtin PySem.Builtin.Str
theorem ke:∀l:List (Str×Tok),Vals ((l.map (·.1)).map Oh) (strValues l)
 | []=>.nil
 | p::r=>.cons ⟨p.2,rfl⟩ (ke r)
theorem nW{prog:Program}{w:World}{A:Around}{s:Shared}{t u:Tok}{Q:Value->Shared->Prop}(hy:(y.length == 0)=false)
  (h:∀l k,l.map (·.1)=FV x y->l.length<=Oo->Q (.ref s.heap.objs.size) { s with heap:=s.heap.push { cls:=.type "list",data:=.seq (strValues l).toArray },toks:=k })
  (hsz:x.length+2<=Oo):wpAny (model prog w) A (call (.builtin "str.split") [.str x t,.str y u]) Q E s:=by
 have hn:(partsBetween x (occurrences x y 0 x.length (x.length+1)) y.length).length<=Oo:=by
  have e1:=StrLaws.occ_length_le x y 0 x.length (x.length+1);rw[length_partsBetween];lia
 have h1s:([(x,t)]:List (Str×Tok)).length<=Oo:=by show 1<=_;lia
 cases h1:(decide (x.length<y.length) || decide (strKind x<strKind y))
 ·cases hf:(occurrences x y 0 x.length (x.length+1)).isEmpty
  ·refine OK GG (OJ _ _ _) Hi (Ha _ _) (meets_str_split_sep x y t u h1 hy hf ⋯ hn) ?_
   show wants Q E _ { s with toks:=_,heap:=s.heap.push { cls:=.type "list",data:=.seq (strsFrom s.toks (partsBetween x (occurrences x y 0 x.length (x.length+1)) y.length)).toArray } }
   rw[strsFrom_eq];have e:=numbered_texts s.toks (partsBetween x (occurrences x y 0 x.length (x.length+1)) y.length);refine h (numbered s.toks _) _ (e.trans ((if_neg (ne_true_of_eq_false h1)).trans (if_neg (ne_true_of_eq_false hf))).symm) ?_;rw[<-Ea (f:=(·.1)),e];exact hn
  ·exact OK GG (OJ _ _ _) Hi (Ha _ _) (meets_str_split_not_found x y t u h1 hy hf)
    (h [(x,t)] s.toks ((if_neg (ne_true_of_eq_false h1)).trans (if_pos hf)).symm h1s)
 ·exact OK GG (OJ _ _ _) Hi (Ha _ _) (meets_str_split_cannot_occur x y t u h1)
   (h [(x,t)] s.toks (if_pos h1).symm h1s)
def uP:V->List V->Hp->VK->Prop:=λx xs H Q=>∃z y,x=.str z/\xs=[.str y]/\(y.length == 0)=false/\z.length+2<=Oo/\∀p,H p=none->Q (.ref p) (upd H p (.lst ((FV z y).map Oh)))
def zM:V->List V->Hp->VK->Prop:=λx xs H Q=>∃z y,x=.str z/\xs=[.str y]/\z.length<=Oo/\Q (.str (Ff z y)) H
def DV:R2:=λx y H Q=>∃a b,x=.str a/\y=.str b/\Q (.bl (Hb b a)) H
def DW(d:Addr)(kfs:List (Str×Addr)):R2:=λx y H Q=>∃z,x=.str z/\y=.ref d/\Q (.bl (kfs.lookup z).isSome) H
def Co:List V->Hp->VK->Prop:=λxs H Q=>∃z n,xs=[.str z]/\intText? z=some n/\z.length<=640/\Q (.int n) H
def Dr(K:Ec)(ta tb:TE):TE:=λσ H Q=>ta σ H λx H1=>∃k,uo K x H1 k/\(k=true->Q x H1)/\(k=false->tb σ H1 Q)
section
variable{X:Cx}
theorem sI:MtR X "str.split" uP:=by
 intro pins s σ H x xs v us Q I rx rs h;obtain⟨z,y,rfl,rfl,hy,hz,q⟩:=h;obtain⟨t,rfl⟩:=rx;obtain⟨u,rfl,ru⟩:=cx rs;obtain⟨t',rfl⟩:=ru;refine nW hy (λl k e hl=>?_) hz;have hv:=ke l;rw[e]at hv;refine⟨.ref s.heap.objs.size,_,I.laid (t':=k) (λb o q=>El _ q) (Ed _) (show ObjOk X.prog X.w _ _ _ (.lst ((FV z y).map Oh))from⟨?_,strValues l,0,hv,EH _ rfl⟩),rfl,q _ (I.hok.fresh (Ed _))⟩;rw[<-e,Ea,Ea];exact hl
theorem wQ:MtR X "str.removeprefix" zM:=by
 intro pins s σ H x xs v us Q I rx rs h;obtain⟨z,y,rfl,rfl,hz,q⟩:=h;obtain⟨t,rfl⟩:=rx;obtain⟨u,rfl,ru⟩:=cx rs;obtain⟨t',rfl⟩:=ru;exact call_gives Ik (OJ _ _ _) PySem.F.entry_str_removeprefix (PySem.F.args_str_removeprefix_2 _ _) (gives_str_removeprefix z y t t') (post_affix hz _ λt' k=>⟨.str _,H,I.tok k,⟨_,rfl⟩,q⟩)
theorem zN:QOp X (Ou .In) DV:=by
 refine⟨λpins s σ H x y v u Q I rx ry h=>?_⟩;obtain⟨a,b,rfl,rfl,q⟩:=h;obtain⟨t,rfl⟩:=rx;obtain⟨t',rfl⟩:=ry;exact P.in_str ⟨.bl _,H,I,rfl,q⟩
theorem wR:QC X (.type "int") Co:=by
 refine⟨λpins s σ H xs us Q I r h=>?_⟩;obtain⟨z,n,rfl,hn,hl,q⟩:=h;obtain⟨u,rfl,ru⟩:=cx r;obtain⟨t,rfl⟩:=ru;exact Nl hn hl ⟨.int n,H,I.tok _,⟨_,rfl⟩,q⟩
variable{o e a b:Expr}{rest:List Expr}{to ta tb:TE}{t:TA}{apos cpos pos:Pos}
theorem mP {K:Ec}(ho:QE X o to) (ha:QA X [e] t) (hbase:Ow o ("split" : Str) X.env (eval o X.env)=eval o X.env:=by rfl) (hline:(apos.endLine == cpos.line)=true:=by rfl) (hn:bK e=true:=by rfl) (hK:X.K=K:=by rfl) :
  QE X (.Call (.Attribute o "split" apos) [e] [] cpos) (tBM K "str" uP to t):=by subst hK;exact⟨fw Gd GG PySem.F.type_str_split sI ho.out ha.out hbase hline hn⟩
theorem wU {K:Ec}(ho:QE X o to) (ha:QA X [e] t) (hbase:Ow o ("removeprefix" : Str) X.env (eval o X.env)=eval o X.env:=by rfl) (hline:(apos.endLine == cpos.line)=true:=by rfl) (hn:bK e=true:=by rfl) (hK:X.K=K:=by rfl) :
  QE X (.Call (.Attribute o "removeprefix" apos) [e] [] cpos) (tBM K "str" zM to t):=by subst hK;exact⟨fw Gd Ik PySem.F.type_str_removeprefix wQ ho.out ha.out hbase hline hn⟩
theorem uQ{K:Ec}(ha:QE X a ta)(hb:QE X (.BoolOp .Or (b::rest) pos) tb)(hK:X.K=K:=by rfl):QE X (.BoolOp .Or (a::b::rest) pos) (Dr K ta tb):=⟨by
 subst hK;intro pins s σ H Q I h;refine BoolOp_or (thn (ha.out pins s σ H _ I h) λv s1 ⟨x,H1,I1,r1,k,hk,q1,q2⟩=>?_);refine Oy (uq pins s1 σ H1 x v (λc H2=>c=k/\H2=H1) I1 r1 ⟨k,hk,rfl,rfl⟩) (λc s2 q=>?_) λ_ _ z=>z
 obtain⟨H2,I2,rfl,rfl⟩:=q;cases c with
 | true=>exact⟨x,H2,I2,r1,q1 rfl⟩
 | false=>exact hb.out pins s2 σ H2 Q I2 (q2 rfl)⟩
end
theorem kf{P:Params}{z:Str}:∀(kfs:List (Str×Addr)) (ts:List Tok),ts.length=kfs.length->
  (((kfs.zip ts).map λp=>(⟨EY P p.1.1,.str p.1.1 p.2,.ref p.1.2⟩:DictEntry)).find? λe=>Fk z e.key).isSome=(kfs.lookup z).isSome
 | [],_,_=>rfl
 | (y,g)::kfs,[],hl=>by cases hl
 | (y,g)::kfs,t::ts,hl=>by
  rw[FL,E1,LZ,E8];by_cases e:z=y
  ·subst e
   rw[beq_self_eq_true];have:Fk z (GC z t)=true:=by simp[Fk]
   simp only[this];rfl
  ·rw[beq_false_of_ne e]
   have:Fk z (GC y t)=false:=by
    simp only[Fk]
    first
     | exact beq_false_of_ne e
     | exact beq_false_of_ne (E2 e)
     | simpa using e
     | simpa using E2 e
   simp only[this];exact kf kfs ts (by simpa using hl)
theorem zO{d:Addr}{kfs:List (Str×Addr)}(hd:zJ X.K X.w.params d kfs)(hs:(d == sysModules)=false):QOp X (Ou .In) (DW d kfs):=by
 refine⟨λpins s σ H x y v u Q I rx ry h=>?_⟩;obtain⟨z,rfl,rfl,q⟩:=h;obtain⟨t,rfl⟩:=rx;cases ry;obtain⟨ts,ep,hts,hK⟩:=hd;have ho:=I.kIn _ _ hK;have hm:s.heap.MapOf (FN X.prog X.w) d (λk=>findBy (FN X.prog X.w).is ((kfs.zip ts).map λp=>(⟨EY X.w.params p.1.1,.str p.1.1 p.2,.ref p.1.2⟩:DictEntry)).toArray k):=by
  refine⟨_,_,ep,ho,⟨rfl,rfl,rfl⟩,rfl,λe he=>?_,λ_=>rfl⟩;obtain⟨p,hp,rfl⟩:=EC.mp (Ln.mp he);exact⟨p.1.1,by simp[FN,Fk],rfl⟩
 refine wpAny_in_of (knd:=FN X.prog X.w) (k:=z) (by simp[FN,Fk]) hs hm ?_;have e:(findBy (FN X.prog X.w).is ((kfs.zip ts).map λp=>(⟨EY X.w.params p.1.1,.str p.1.1 p.2,.ref p.1.2⟩:DictEntry)).toArray z).isSome=(kfs.lookup z).isSome:=by
  unfold findBy;rw[Kz,Option.isSome_map];exact kf kfs ts hts
 rw[e];exact⟨.bl _,H,I.tok _,rfl,q⟩
section
variable{P:Program}{w:World}{K:Ec}{mg:Str->Option Value}{base:Heap}
end
theorem Ds{K:Ec}{H:Hp}(h:ta σ H λx H1=>∃k,uo K x H1 k/\(k=true->Q x H1)/\(k=false->tb σ H1 Q)):Dr K ta tb σ H Q:=h
end L2
namespace HT
open PySem PyProof.Rows PySem.W L2
noncomputable def start(m:Nat)(h:Int):Oc:={ j:=Hs h % (m+1),more:=Oa m (Hs h % (m+1)) - Hs h % (m+1),i:=Hs h % (m+1),perturb:=Hs h,dummy:=none }
section
variable{prog:Program}{w:World}{A:Around}{E:Value->Shared->Prop}{s:Shared}
end
section
variable{prog:Program}{w:World}{A:Around}{E:Value->Shared->Prop}{s:Shared}
end
section
variable{prog:Program}{w:World}{A:Around}{E:Value->Shared->Prop}{s:Shared}
end
section
variable{prog:Program}{w:World}{A:Around}{E:Value->Shared->Prop}{s:Shared}
end
end HT
namespace L2
open PySem PySem.Spec PyProof.Rows PySem.W
section
variable{X:Cx}{e:Expr}{t:TA}{p p2 pos pos2:Pos}{pins:List (Addr×Obj)}{σ:St}{H:Hp}{s:Shared}
end
end L2
namespace L2
open PySem PySem.Spec PyProof.Rows
end L2
namespace L2
open PySem PySem.Spec PyProof.Rows PySem.W
section
variable{X:Cx}{e o:Expr}{to te:TE}{t:TA}{pos apos cpos:Pos}
end
end L2
namespace L2
open PySem PySem.Spec PyProof.Rows
noncomputable def st0:List Str->List V->St
 | [],_=>[]
 | _::N,v::vs=>some v::st0 N vs
 | _::N,[]=>none::st0 N []
theorem qa:∀(N:List Str) (vs:List V),vs.length<=N.length->start N vs=st0 N vs
 | [],[],_=>rfl
 | x::N,[],h=>by
  have:=qa N [] (Eo _);unfold st0;rw[<-this];rfl
 | x::N,v::vs,h=>by
  have:=qa N vs (Nat.le_of_succ_le_succ h);unfold st0;rw[<-this];unfold start;simp
theorem nwD{H0 H:Hp}(s:Same H0 H)(h:H p=none)(o:HO):∃H1,upd H p o=H1/\Same H0 H1/\Same H H1/\H1 p=some o:=⟨_,rfl,s.new h,(Oj H).new h,af⟩
theorem nwS{H0 H:Hp}(s:Same H0 H)(h:H p=none)(o:HO):∃H1,upd H p o=H1/\Same H0 H1/\H1 p=some o:=⟨_,rfl,s.new h,af⟩
theorem nwR{H:Hp}(h:H p=none)(o:HO):∃H1,upd H p o=H1/\Same H H1/\H1 p=some o:=⟨_,rfl,(Oj H).new h,af⟩
theorem owS{H0 H:Hp}(s:Same H0 H)(h:H0 p=none)(o:HO):∃H1,upd H p o=H1/\Same H0 H1/\H1 p=some o/\∀q u,q≠p->H q=some u->H1 q=some u:=⟨_,rfl,s.own h,af,λq u n e=>by rw[ar n];exact e⟩
noncomputable abbrev Ent:=Str×Stmt×List Str
noncomputable abbrev en(x:Str)(s:Stmt)(p:List Str):Ent:=(x,s,p)
def BP(e:Ent):Prop:=∀(kV doc pm:Value) (an:Option Addr) (cdv ct:Value) (us:List Value),us.length=e.2.2.length->bindArgs (Gf e.1 e.1 (dX e.2.1) (cP e.2.1) (bj e.2.1) .none kV doc pm an cdv ct) ⟨us,[]⟩=pure (e.2.2.zip us)
noncomputable def AB:List Ent->Prop
 | []=>True
 | e::r=>BP e/\AB r
theorem AB.get:∀{l:List Ent}{i:Nat}{e:Ent},AB l->l[i]? = some e->BP e
 | [],i,e,_,h=>by simp at h
 | a::l,0,e,⟨b,_⟩,h=>by cases h;exact b
 | a::l,i+1,e,⟨_,b⟩,h=>AB.get (l:=l) b h
def FT(K:Ec)(mg:Str->Option Value)(f:Addr)(d:FuncData)(x:Str)(s:Stmt)(p:List Str):Prop:=mg x=some (.ref f)/\Fun K x x s f d/\Binds K d p []
noncomputable def Al(K:Ec):List Ent->List Addr->List FuncData->Prop
 | [],_,_=>True
 | (x,s,_)::r,f::fs,d::ds=>(EJ K mainGlobals x=some (some (.ref f))/\Fun K x x s f d)/\Al K r fs ds
 | _,_,_=>False
theorem Al.nil{K:Ec}:Al K [] [] []:=trivial
theorem Al.cons{K:Ec}{s:Stmt}{p:List Str}{f:Addr}{d:FuncData}{r:List Ent}{fs:List Addr}{ds:List FuncData}(h:EJ K mainGlobals x=some (some (.ref f)))(g:Fun K x x s f d)(k:Al K r fs ds):Al K ((x,s,p)::r) (f::fs) (d::ds):=⟨⟨h,g⟩,k⟩
theorem Al.get{K:Ec}{f0:Addr}{d0:FuncData}{x:Str}{s:Stmt}{p:List Str}:∀{l:List Ent}{fs:List Addr}{ds:List FuncData}{i:Nat},Al K l fs ds->l[i]? = some (x,s,p)->EJ K mainGlobals x=some (some (.ref (fs.getD i f0)))/\Fun K x x s (fs.getD i f0) (ds.getD i d0)
 | [],_,_,_,_,h=>by simp at h
 | (_,_,_)::l,f::fs,d::ds,0,⟨a,_⟩,h=>by cases h;exact a
 | (_,_,_)::l,f::fs,d::ds,i+1,⟨_,a⟩,h=>Al.get (l:=l) (fs:=fs) (ds:=ds) (i:=i) a h
theorem Al.ft{K:Ec}{mg:Str->Option Value}{l:List Ent}{fs:List Addr}{ds:List FuncData}(X:K.In h)(G:h.Ns mainGlobals mg)(al:Al K l fs ds)(ab:AB l)(f0:Addr)(d0:FuncData)(i:Nat){s:Stmt}{p:List Str}(e:l[i]? = some (x,s,p)):
  FT K mg (fs.getD i f0) (ds.getD i d0) x s p:=
 let g:=al.get (f0:=f0) (d0:=d0) e
 ⟨Fg X G g.1,g.2,g.2.binds (AB.get ab e)⟩
section
variable{P:Program}{w:World}{K:Ec}{mg:Str->Option Value}{base:Heap}
theorem okT{st:Stmt}{f:Addr}{fd:FuncData}{N ps:List Str}{sp:Sp}(F:FT K mg f fd x st ps)
  (hbody:∀{cdv:Value}{A:Around}{outer:List Env}{s:Shared}{vs:List V}{E:XK}(H:Hp) (Q:VK),Room k (A.deeper (envOfC x (bj st) s.heap.objs.size f cdv))->N.Nodup->sp vs H Q E->
   ∃t,QB (uu CX0 P w K mg base N x (bj st) f cdv A outer s H E).nox (cP st) t/\t { nx:=λ_ H'=>Q .non H',rt:=Q } (st0 N vs) H)
  (S:FnScope N ps (bj st):=by exact⟨rfl,rfl,rfl,by decide +kernel,rfl,by decide +kernel,by decide +kernel⟩)
  (len:∀{vs H Q E},sp vs H Q E->vs.length=ps.length:=by intro _ _ _ _ h;repeat (first|(obtain⟨rfl,_⟩:=h;rfl)|obtain⟨_,h⟩:=h)):FnOk P w K mg base CX0 (k+1) f fd ps sp:=
 F.2.1.okQ S (λ_ _ _ _ h=>len h) λcdv A outer s H vs Q E hr h=>by
  rw[qa N vs (by rw[len h,<-S.pre,EI];exact Nat.min_le_right ..)];exact hbody H Q hr S.nd h
end
section
variable{X:Cx}{e:Expr}{es:List Expr}{te:TE}{t:TA}{x:Str}{p pos:Pos}{i:Nat}{j k:Nat}{f:Addr}{fd:FuncData}{ps:List Str}{sp:Sp}{st:Stmt}
theorem aA (F:FnOk X.prog X.w X.K X.mg X.base CX0 j f fd ps sp) (hr:Room k X.A) (h:FT X.K X.mg f fd x st ps) (ha:QA X (e::es) t) (hd:j<=k:=by decide) (hg:Gl X x:=by rfl) (hn:(e::es).all bK=true:=by rfl) (hdb:(x == ("__debug__" : Str))=false:=by decide) :
  QE X (.Call (.Name x p) (e::es) [] pos) (oJ sp [] E0 t):=wg F (hr.mono hd) hg h.1 h.2.1.kp h.2.2 jI ha hn hdb
noncomputable def ndB:List Str->Bool
 | []=>true
 | x::r=>!r.elem x && ndB r
theorem uR:∀{l:List Str},ndB l=true->l.Nodup
 | [],_=>.nil
 | x::r,h=>by
  unfold ndB at h;rw[Fu]at h;refine Gi.mpr ⟨λz=>?_,uR h.2⟩;rw[List.elem_eq_true_of_mem z]at h;exact absurd h.1 (by decide)
theorem aD(he:QE X e te)(hN:X.N.Nodup:=by assumption)(hi:X.N[i]? = some x:=by rfl)(hx:Loc X.env.scope x:=by first|exact .inl rfl|exact .inr rfl)(hs:OL e (some (.Name x pos')) pos.line X.env=pure false:=by rfl)(hf:X.fn x=true\/X.env.scope.names.lookup x=some .local:=by first|exact .inl rfl|exact .inr rfl|assumption):
  QS X (.Assign [.Name x pos'] e pos) (nj te (dm i)):=zc hN hi hx he hs hf
theorem ay(hN:X.N.Nodup:=by first|assumption|exact uR (by kernel_rfl))(hi:X.N[i]? = some x:=by rfl)(hx:Loc X.env.scope x:=by first|exact .inl rfl|exact .inr rfl)(hf:X.fn x=true\/X.env.scope.names.lookup x=some .local:=by first|exact .inl rfl|exact .inr rfl|assumption):QG X (.Name x pos) (dm i):=wj hN hi hx hf
end
end L2
namespace L2
open PySem PySem.Spec PyProof.Rows PySem.Builtin PySem.Builtin.Str
def zP:V->List V->Hp->VK->Prop:=λx xs H Q=>∃z y,x=.str z/\xs=[.str y]/\(y.length == 0)=false/\z.length<=Oo/\∀p,H p=none->Q (.ref p) (upd H p (.tup [.str (FE z y).1,.str (FE z y).2.1,.str (FE z y).2.2]))
def Dt:V->List V->Hp->VK->Prop:=λx xs H Q=>∃z y,x=.str z/\xs=[.str y]/\Q (.bl (Mf z y)) H
theorem gA(a:Str):Ge++a=a:=by
 obtain⟨a⟩:=a;show(⟨#[]++a⟩:Str)=⟨a⟩
 rw[Array.empty_append]
def Du(a:Str)(te:TE):TE:=λσ H Q=>te σ H λx H1=>∃y:Str,x=.str y/\y.length<=1000/\Q (.str (a++y)) H1
def zQ(a:Str)(te tf:TE):TE:=λσ H Q=>te σ H λx H1=>∃i:Int,x=.int i/\i.natAbs.log2<1920/\tf σ H1 λy H2=>∃j:Int,y=.int j/\j.natAbs.log2<1920/\Q (.str ((toString i:Str)++a++(toString j:Str))) H2
section
variable{X:Cx}
theorem wV:MtR X "str.partition" zP:=by
 intro pins s σ H x xs v us Q I rx rs h;obtain⟨z,y,rfl,rfl,hy,hz,q⟩:=h;obtain⟨t,rfl⟩:=rx;obtain⟨u,rfl,ru⟩:=cx rs;obtain⟨t',rfl⟩:=ru;refine OK IR (OJ _ _ _) PySem.F.entry_str_partition (PySem.F.args_str_partition_2 _ _) (meets_str_partition z y t t' hy hz) ?_;have q':=λp=>q p
 unfold FE at q';revert q';cases occurrences z y 0 z.length 1<;>intro q'<;>
  exact⟨.ref s.heap.objs.size,_,I.laid (λb o w'=>El _ w') (Ed _) (show ObjOk X.prog X.w _ _ _ (.tup [.str _,.str _,.str _])from⟨by show 3<=Oo;decide,[.str _ _,.str _ _,.str _ _],.cons ⟨_,rfl⟩ (.cons ⟨_,rfl⟩ (.cons ⟨_,rfl⟩ .nil)),_,EH _ rfl,rfl,_,rfl⟩),rfl,q' _ (I.hok.fresh (Ed _))⟩
theorem zR:MtR X "str.startswith" Dt:=by
 intro pins s σ H x xs v us Q I rx rs h;obtain⟨z,y,rfl,rfl,q⟩:=h;obtain⟨t,rfl⟩:=rx;obtain⟨u,rfl,ru⟩:=cx rs;obtain⟨t',rfl⟩:=ru;exact call_gives IF (OJ _ _ _) PySem.F.entry_str_startswith (PySem.F.args_str_startswith_2 _ _) (gives_str_startswith z y t t') ⟨.bl _,H,I,rfl,q⟩
variable{o e v w:Expr}{to te tf:TE}{t:TA}{apos cpos pos p1 p2 p3:Pos}{a:Str}{j1:Nat}
theorem wW {K:Ec}(ho:QE X o to) (ha:QA X [e] t) (hbase:Ow o ("partition" : Str) X.env (eval o X.env)=eval o X.env:=by rfl) (hline:(apos.endLine == cpos.line)=true:=by rfl) (hn:bK e=true:=by rfl) (hK:X.K=K:=by rfl) :
  QE X (.Call (.Attribute o "partition" apos) [e] [] cpos) (tBM K "str" zP to t):=by subst hK;exact⟨fw Gd IR PySem.F.type_str_partition wV ho.out ha.out hbase hline hn⟩
theorem zS {K:Ec}(ho:QE X o to) (ha:QA X [e] t) (hbase:Ow o ("startswith" : Str) X.env (eval o X.env)=eval o X.env:=by rfl) (hline:(apos.endLine == cpos.line)=true:=by rfl) (hn:bK e=true:=by rfl) (hK:X.K=K:=by rfl) :
  QE X (.Call (.Attribute o "startswith" apos) [e] [] cpos) (tBM K "str" Dt to t):=by subst hK;exact⟨fw Gd IF PySem.F.type_str_startswith zR ho.out ha.out hbase hline hn⟩
theorem zT(hv:QE X v te)(hsz:a.length<=1000:=by decide):QE X (.JoinedStr [.Constant (.str a) j1 p1,.FormattedValue v (-1) none p2] pos) (Du a te):=⟨by
 intro pins s σ H Q I h;refine JoinedStr_many (joinParts_cons (Ir ?_));dsimp only;rw[gA];refine⟨by rw[Os];lia,?_⟩;refine joinParts_cons (FormattedValue_plain (thn (hv.out pins _ σ H _ (I.tok _) h) λu s1 ⟨x,H1,I1,r,y,ex,hy,q⟩=>?_));subst ex;obtain⟨tk,rfl⟩:=r;refine formatField_str (λt' k=>?_) (by rw[Os];lia);refine⟨by rw[OA,Os];lia,joinParts_nil ⟨.str _,H1,(I1.tok _).tok _,⟨_,rfl⟩,q⟩ (by rw[OA,Os];lia)⟩⟩
theorem wX(hv:QE X v te)(hw:QE X w tf)(hsz:a.length<=1000:=by decide):QE X (.JoinedStr [.FormattedValue v (-1) none p1,.Constant (.str a) j1 p2,.FormattedValue w (-1) none p3] pos) (zQ a te tf):=⟨by
 intro pins s σ H Q I h;refine JoinedStr_many (joinParts_cons (FormattedValue_plain (thn (hv.out pins _ σ H _ I h) λu s1 ⟨x,H1,I1,r,i,ex,hi,q⟩=>?_)));subst ex;obtain⟨tk,rfl⟩:=r;have hl:=int_text_length_le (a:=i) (k:=1920) (by decide) hi;refine formatField_int_small hi ⟨?_,?_⟩
 ·rw[gA,FK,Os];lia
 rw[gA];refine joinParts_cons (Ir ?_);refine⟨by rw[OA,FK,Os];lia,?_⟩;refine joinParts_cons (FormattedValue_plain (thn (hw.out pins _ σ H1 _ (I1.tok _) q) λu s2 ⟨y,H2,I2,r,j,ey,hj,q⟩=>?_));subst ey;obtain⟨tk,rfl⟩:=r;have hl2:=int_text_length_le (a:=j) (k:=1920) (by decide) hj;refine formatField_int_small hj ⟨?_,?_⟩
 ·rw[OA,OA,FK,FK,Os];lia
 refine joinParts_nil ⟨.str _,H2,I2.tok _,⟨_,rfl⟩,q⟩ ?_;rw[OA,OA,FK,FK,Os];lia⟩
end
section
variable{σ:St}{H:Hp}{Q:VK}{a:Str}{te tf:TE}
theorem Dv(h:te σ H λx H1=>∃y:Str,x=.str y/\y.length<=1000/\Q (.str (a++y)) H1):Du a te σ H Q:=h
theorem Cp(h:te σ H λx H1=>∃i:Int,x=.int i/\i.natAbs.log2<1920/\tf σ H1 λy H2=>∃j:Int,y=.int j/\j.natAbs.log2<1920/\Q (.str ((toString i:Str)++a++(toString j:Str))) H2):zQ a te tf σ H Q:=h
end
end L2
namespace HT
open PySem PySem.Spec PyProof.Rows PySem.W L2
noncomputable def lG(k m:Str×List Int):Bool:=if k.1=m.1 then bG k.2 m.2 else decide (k.1.cps.toList<m.1.cps.toList)
theorem qb(a b:Str×List Int)(h:lG a b=true):lG b a=false:=by
 unfold lG at *;by_cases g:a.1=b.1
 ·rw[if_pos g]at h
  rw[if_pos g.symm];exact ir _ _ h
 ·rw[if_neg g]at h
  rw[if_neg (E2 g)];have h1:=of_decide_eq_true h;exact decide_eq_false λh2=>Hf _ (Ms h1 h2)
theorem sO(a b c:Str×List Int)(h1:lG a b=false)(h2:lG b c=false):lG a c=false:=by
 obtain⟨a1,a2⟩:=a;obtain⟨b1,b2⟩:=b;obtain⟨c1,c2⟩:=c;unfold lG at *;dsimp only at *;by_cases g:a1=b1
 ·subst g
  rw[if_pos rfl]at h1;by_cases g':a1=c1
  ·rw[if_pos g']at h2 ⊢
   exact j7 _ _ _ h1 h2
  ·rw[if_neg g']at h2 ⊢
   exact h2
 ·rw[if_neg g]at h1
  by_cases g':b1=c1
  ·subst g'
   rw[if_neg g];exact h1
  ·rw[if_neg g']at h2
   have e1:=JM.mp (of_decide_eq_false h1);have e2:=JM.mp (of_decide_eq_false h2);by_cases g2:a1=c1
   ·subst g2
    exact absurd (wL (List.le_antisymm e2 e1)) g
   ·rw[if_neg g2];exact decide_eq_false (JM.mpr (List.le_trans e2 e1))
theorem wY (ks:List (Str×List Int)):Lt (λi j=>lG (ks.getD i ("",[])) (ks.getD j ("",[]))):=⟨λi j h=>qb _ _ h,λi j k h1 h2=>sO _ _ _ h1 h2⟩
section
variable{prog:Program}{w:World}{A:Around}{E:Value->Shared->Prop}{s:Shared}
theorem sP{x y:Addr}{its its2:Array Value}{us2:List Value}{t t2:Tok}{k m:Str×List Int}{Q:Bool->Shared->Prop}(hx:IsTup s.heap x its)(hy:IsTup s.heap y its2)(ex:its.toList=.str k.1 t::us)(ey:its2.toList=.str m.1 t2::us2)(hi:Ox us k.2)(hj:Ox us2 m.2)
  (h:Q (lG k m) s) :
  wpAny (model prog w) A (keyLt' (tuples' true) (.ref x) (.ref y)) Q E s:=by
 obtain⟨o,ho,hc,n,hd⟩:=id hx;obtain⟨o2,ho2,hc2,n2,hd2⟩:=id hy;refine kat_lt ho hd ho2 hd2 ?_;rw[ex,ey,FL];refine kat_cons (wpAny_eqBool_str ?_);unfold lG at h;by_cases g:k.1=m.1
 ·rw[if_pos g]at h
  rw[decide_eq_true g];refine kat_yes (i9 hi hj 1 true ?_ h);have e1:its.size=its.toList.length:=rfl;have e2:its2.size=its2.toList.length:=rfl;rw[e1,e2,ex,ey,EB,EB,<-hi.length,<-hj.length];simp
 ·rw[if_neg g]at h
  rw[decide_eq_false g];refine kat_no ?_;exact pZ h
theorem qc{vs fs:List Value}{Q:SortKind->Shared->Prop}(h2:2<=vs.length)(hl:vs.length=fs.length)(t:KatTups s.heap vs fs)(hf:∀f∈fs,∃x u,f=.str x u)
  (h:Q (tuples' true) s):wpAny (model prog w) A (keyKind' vs.toArray) Q E s:=by
 refine kat_kind (T:=FY "str") t ⋯ (λv hv=>?_) rfl h;obtain⟨x,u,rfl⟩:=hf v hv;exact Looks.of_pure rfl
theorem kg:∀(as:List Addr) (cs:List (Str×List Int)),as.length=cs.length->(∀(i:Nat) a k,as[i]? = some a->cs[i]? = some k->∃its us u,IsTup s.heap a its/\its.toList=GC k.1 u::us)->∃fs,KatTups s.heap (as.map ES) fs/\fs.length=as.length/\∀f∈fs,∃x u,f=GC x u
 | [],[],_,_=>⟨[],.nil,rfl,λ_ h=>nomatch h⟩
 | [],_::_,h,_=>by cases h
 | _::_,[],h,_=>by cases h
 | a::as,c::cs,h1,h3=>by
  obtain⟨fs,q1,q2,q3⟩:=kg as cs (by simpa using h1) (λi a k e1 e2=>h3 (i+1) a k (by simpa using e1) (by simpa using e2));obtain⟨its,us,u,⟨o,ho,hc,n,hd⟩,hi⟩:=h3 0 a c rfl rfl;obtain⟨its'⟩:=its;simp only at hi;subst hi;exact⟨.str c.1 u::fs,KatTups.cons (f:=.str c.1 u) ho hc hd (by simp) q1,by simp[q2],λf hf=>(EA.mp hf).elim (λe=>⟨_,_,e⟩) (q3 f)⟩
end
end HT
namespace L2
open PySem PySem.Spec PyProof.Rows
section
variable{X:Cx}
def qd(K:Ec):List V->Hp->VK->Prop:=λxs H Q=>∃(l:Addr) (rs:List Addr) (ks:List (Str×List Int)),xs=[.ref l]/\SqL K H l (rs.map Oi)/\rs.length=ks.length/\rs.length<64/\
 (∀(i:Nat) a k,rs[i]? = some a->ks[i]? = some k->SqT K H a (Oh k.1::k.2.map Og))/\
 ∀(d:Addr) (p:List Nat),H d=none->p.Perm (Ej rs.length)->p.Pairwise (Ah λi j=>HT.lG (ks.getD i ("",[])) (ks.getD j ("",[])))->Q (.ref d) (upd H d (.lst (p.map λi=>.ref (rs.getD i 0))))
theorem lH:bQ X (.builtin "sorted") (qd X.K):=by
 intro pins s σ H xs us Q I r h;obtain⟨l,rs,ks,rfl,hq,hlen,h64,ht,q⟩:=h;obtain⟨u,rfl,rx⟩:=cx r;cases rx;obtain⟨its,r',pl,hz⟩:=I.list hq;obtain rfl:=gy r';have hl:(rs.map ES).length=rs.length:=Ea _;have tup:∀(h':Heap),(∀b o,s.heap.get? b=some o->h'.get? b=some o)->∀(i:Nat) a k,rs[i]? = some a->ks[i]? = some k->∃its us u,IsTup h' a its/\its.toList=.str k.1 u::us/\Ox us k.2:=λh' hk i a k e1 e2=>by
  obtain⟨its,r1,⟨o,ho,hc⟩,_⟩:=I.tuple (ht i a k e1 e2);cases r1 with
  | cons rv r1=>
   obtain⟨u,rfl⟩:=rv;exact⟨_,_,u,⟨o,hk _ _ ho,hc⟩,rfl,bY r1⟩
 have get:∀i,i<(rs.map ES).length->rs[i]? = some (rs.getD i 0)/\ks[i]? = some (ks.getD i ("",[]))/\(rs.map ES).getD i Fb=.ref (rs.getD i 0):=λi hi=>by
  rw[hl]at hi;have h3:i<ks.length:=by lia
  refine⟨?_,?_,?_⟩
  ·rw[Eb,D9 hi];rfl
  ·rw[Eb,D9 h3];rfl
  ·rw[Eb,Eb,Eh,D9 hi];rfl
 have fin:∀p:List Nat,p.Perm (Ej (rs.map ES).length)->p.Pairwise (Ah λi j=>HT.lG (ks.getD i ("",[])) (ks.getD j ("",[])))->
   EP X pins σ Q (.ref (s.heap.objs.size+1)) { s with heap:=sortedAll s.heap (rs.map ES) (EX (p.map λi=>(rs.map ES).getD i Fb)) }:=λp hp hs=>by
  obtain⟨c,hc⟩:=sortedAll_at s.heap (rs.map ES) (EX (p.map λi=>(rs.map ES).getD i Fb));have hpl:=hp.length_eq;rw[E9,hl]at hpl;rw[hl]at hp;refine⟨.ref (s.heap.objs.size+1),_,I.laid (t':=s.toks) (λb o e=>sortedAll_old e) (GV _) (show ObjOk X.prog X.w _ _ _ (.lst (p.map λi=>.ref (rs.getD i 0)))from⟨?_,_,c,ja λi hi=>?_,hc⟩),rfl,q _ p (I.hok.fresh (GV _)) hp hs⟩
  ·rw[Ea,hpl,Os];lia
  ·rw[(get i (by rw[hl];exact ER.mp (hp.mem_iff.mp hi))).2.2]
   rfl
 refine HT.fm (κ:=tuples' true) pl.isList ⋯ (HT.wY ks) (λh' Q' h2 k hQ=>?_) (λh' i j Q' hi hj k hQ=>?_) fin
 ·obtain⟨fs,z1,z2,z3⟩:=HT.kg (s:={ s with heap:=h' }) rs ks hlen (λi a k1 e1 e2=>by obtain⟨its,us,u,z1,z2,_⟩:=tup h' k i a k1 e1 e2;exact⟨its,us,u,z1,z2⟩)
  exact HT.qc h2 (by rw[hl,z2]) z1 z3 hQ
 ·obtain⟨g1,g2,g3⟩:=get i hi
  obtain⟨k1,k2,k3⟩:=get j hj;obtain⟨its,us,u,t1,e,i1⟩:=tup h' k i _ _ g1 g2;obtain⟨its',us',u',t1',e',i1'⟩:=tup h' k j _ _ k1 k2;rw[g3,k3];exact HT.sP t1 t1' e e' i1 i1' hQ
def mQ(K:Ec):List V->Hp->VK->Prop:=λxs H Q=>uI K xs H Q\/qd K xs H Q
theorem nX (hu:X.A.in1.in1.units<cLine):bQ X (.builtin "sorted") (mQ X.K):=by
 intro pins s σ H xs us Q I r h;rcases h with h|h
 ·exact nT hu pins s σ H xs us Q I r h
 ·exact lH pins s σ H xs us Q I r h
theorem sX {K:Ec}(hu:X.A.units+64<cLine) (hK:X.K=K:=by rfl):QC X (.builtin "sorted") (mQ K):=by subst hK;exact⟨nX (show X.A.units+1+1<cLine by lia)⟩
end
end L2
set_option maxHeartbeats 0
namespace Fs
open PySem PySem.Spec PyProof.Rows L2
local macro_rules
 | `(tactic| nofun)=>do
  let q ←("CT Dv Cp CU BD CV BE BF DF CW BG D6 CY DH CZ BH C0 Ds D7 DI DJ DK AI BN C7 BS C8 AJ AK D8 C2 C3 C9 BU AL BV DL BI C4 BJ C5 C6 DG iQ DN DO BW B0 Df AQ Dl B6 AR B5 AO Di Dj DQ B4 pz AM Dm Ci Cj Dh B7 Cb Cd Cc DP cj Cm Cn AS".splitOn " ").foldrM (fun n (a:Lean.TSyntax `tactic)=>`(tactic| first | (with_reducible refine $(Lean.mkIdent (NU n)) ?_) | $a:tactic)) (←`(tactic| fail))
  `(tactic| (repeat (first | $q:tactic|(with_reducible refine in_xset ?_;dsimp only[E4])|(with_reducible refine rK ?_;dsimp only[E4])|((with_reducible show A0 _ _ _ _);refine⟨_,rfl,?_⟩)|(with_reducible refine C1 ?c ?_;(case c=>first|(show(0:Int)<_;omega)|exact BK (by omega) (by omega)|exact DM (by omega) (by omega)|exact cdivP (by omega) (by omega) (by omega)|exact BL (by omega) (by omega)|exact BM (by omega) (by omega)|exact cpow (by decide) (by decide) (by decide)))|((with_reducible show xV _ _ _ _ _);with_reducible refine yW (by first|assumption|exact af) ?_;refine⟨_,rfl,?_⟩)|((with_reducible show xW _ _ _ _ _);with_reducible refine vV (by first|assumption|exact af) ?_;refine⟨_,rfl,?_⟩)|((with_reducible show k6 _ _ _ _ _);with_reducible refine vW (by first|assumption|exact af) ?_;refine⟨_,rfl,?_⟩;dsimp only[Int.reduceToNat,E4])|(with_reducible refine wo ?_;dsimp only[E4])|((with_reducible show Be _ _ _ _ _ _);refine⟨_,rfl,?_⟩))))
def top(i:Nat):Stmt:=Eg.main.body.getD i (.Pass ⟨0,0,0,0⟩)
noncomputable abbrev cE:Stmt:=vS (top 94) 0
noncomputable abbrev je:Stmt:=top 129
set_option genSizeOfSpec false in
set_option genInjectivity false in
structure Ad where
 f:Nat->Addr
 d:Nat->FuncData
 cI:Addr
 cH:FuncData
 Aw:Addr
 Av:FuncData
 wd:World
 bS:Addr
 fD:Addr
 iG:Addr
 gJ:Addr
 aH:Addr
 eh:Tok
 gM:Tok
 gN:Tok
 cV:Tok
 dh:Tok
 cU:Tok
 dC:Tok
 ee:Tok
 ef:Tok
noncomputable def tab:List Ent:=[en "counts" (top 6) ["row","base"],en "begins" (top 7) ["counts"],en "many_columns" (top 8) ["rows"],en "tally" (top 9) ["rows","base"],en "beginnings" (top 10) ["rows","column"],en "is_parted" (top 11) ["often"],en "order_by_figure" (top 12) ["row","base"],en "parts_of" (top 14) ["first","often","column"],en "from_first" (top 15) ["rows","base"],en "many_goings_on" (top 16) ["longer"],en "ahead_of_first" (top 17) ["lists"],en "is_order" (top 19) ["thing"],en "check_order" (top 20) ["thing","many"],en "own_copy" (top 21) ["thing"],en "put" (top 22) ["things","order"],en "back_of" (top 23) ["order"],en "rings" (top 24) ["order"],en "told_order" (top 25) ["rows"],en "walked" (top 28) ["row","base"],en "heap_sorted" (top 29) ["rows","base"],en "runs" (top 31) ["rows"],en "merged" (top 32) ["one","other"],en "merged_places" (top 33) ["rows","one","other"],en "merging_round" (top 34) ["lengths"],en "ahead_of_runs" (top 35) ["lengths"],en "by_runs" (top 36) ["rows"],en "is_due" (top 38) ["lengths"],en "moves_of_ring" (top 41) ["ring"],en "many_figures" (top 44) ["n","base"],en "figures" (top 45) ["n","base","many"],en "common_measure" (top 48) ["one","other"],en "least_bottom" (top 49) ["parts"],en "whole_numbers" (top 50) ["parts"],en "number_rows" (top 51) ["numbers","base"],en "text_row" (top 52) ["text","columns"],en "text_rows" (top 53) ["texts"],en "spelled" (top 54) ["kind","keys","base"],en "from_last" (top 56) ["rows","base"],en "ahead_of_last" (top 57) ["tally"],en "last_ahead" (top 59) ["rows","base"],en "first_ahead" (top 60) ["rows","base"],en "runs_ahead" (top 61) ["rows","base"],en "last_done" (top 62) ["rows","base"],en "first_done" (top 63) ["rows","base"],en "runs_done" (top 64) ["rows","base"],en "moves_ahead" (top 68) ["kind","keys","base"],en "cheapest" (top 69) ["kind","keys","base"],en "ordered" (top 70) ["way","kind","keys","base"],en "is_made_of" (top 77) ["word","signs"],en "is_number" (top 78) ["word"],en "read_number" (top 79) ["word"],en "read_part" (top 80) ["word"],en "read_text" (top 81) ["word"],en "is_kind" (top 83) ["word"],en "read_keys" (top 84) ["kind","words"],en "write_part" (top 85) ["part"],en "write_key" (top 86) ["kind","key"],en "write_keys" (top 87) ["kind","keys"],en "write_row" (top 88) ["things"],en "write_rows" (top 89) ["rows"],en "rows_of" (top 95) ["desk"],en "order_of" (top 96) ["desk"],en "poured_keys" (top 97) ["desk"],en "pour_of" (top 98) ["desk"],en "answer_sort" (top 99) ["desk","way"],en "answer_order" (top 100) ["desk"],en "answer_back" (top 101) ["desk"],en "answer_rings" (top 102) ["desk"],en "answer_ahead" (top 103) ["desk"],en "answer_cheapest" (top 104) ["desk"],en "answer_walk" (top 105) ["desk"],en "answer_puts" (top 106) ["desk"],en "answer_poured" (top 107) ["desk"],en "answer_heaps" (top 108) ["desk"],en "read_kind" (top 110) ["words"],en "read_deed" (top 111) ["kind","words","room"],en "read_ask" (top 112) ["words"],en "read_deeds" (top 113) ["kind","numbered"],en "read_rows" (top 114) ["text"],en "answered" (top 115) ["desk","ask","way"],en "run" (top 116) ["text"],en "_law_tape" (top 118) ["_law_script","_law_k"],en "_law_draw" (top 119) ["_law_tape_here","_law_many_here"],en "_law_many" (top 120) ["_law_tape_here"],en "_law_base" (top 121) ["_law_tape_here"],en "_law_key" (top 122) ["_law_tape_here","_law_kind"],en "_law_part" (top 123) ["_law_top","_law_bottom"],en "_law_keys" (top 124) ["_law_tape_here","_law_kind","_law_many_here"],en "_law_order" (top 125) ["_law_keys_here"],en "_law_words" (top 126) ["_law_things"],en "_law_sorted" (top 127) ["_law_keys_here"],en "_law_are_answers" (top 128) ["_law_found","_law_due"]]
structure Tx (K:Ec) (mg:Str->Option Value) (t:Ad):Prop where
 fn:∀(i:Nat){x:Str}{s:Stmt}{p:List Str},tab[i]? = some (x,s,p)->FT K mg (t.f i) (t.d i) x s p
 gI:Mk K t.aH t.cI
 gH:Fun K "__init__" "Desk.__init__" cE t.cI t.cH
 gK:Binds K t.cH ["self","kind","base"] []
 CO:Fun K "law" "law" je t.Aw t.Av
 lZ:mg "abs" = none
 qQ:mg "all" = none
 ni:mg "bool" = none
 cb:mg "enumerate" = none
 kN:mg "int" = none
 aZ:mg "isinstance" = none
 bg:mg "len" = none
 dD:mg "list" = none
 l6:mg "max" = none
 oj:mg "min" = none
 qR:mg "ord" = none
 cf:mg "range" = none
 fV:mg "sorted" = none
 fK:mg "str" = none
 jt:mg "sum" = none
 bT:mg "tuple" = none
 ue:mg "zip" = none
 kM:mg "READERS" = some (.ref t.bS)
 gO:zJ K t.wd.params t.bS [("number",(t.f 50)),("part",(t.f 51)),("text",(t.f 52))]
 Ax:mg "ASKS" = some (.ref t.fD)
 ub:zJ K t.wd.params t.fD [("order",(t.f 65)),("back",(t.f 66)),("rings",(t.f 67)),("ahead",(t.f 68)),("cheapest",(t.f 69)),("walk",(t.f 70)),("puts",(t.f 71)),("poured",(t.f 72)),("heaps",(t.f 73))]
 Ay:mg "DONE" = some (.ref t.iG)
 uc:zJ K t.wd.params t.iG [("last",(t.f 42)),("first",(t.f 43)),("runs",(t.f 44))]
 Az:mg "WAYS" = some (.ref t.gJ)
 ud:∀H,SqT K H t.gJ [.str "last",.str "first",.str "runs"]
 xU:mg "Desk" = some (.ref t.aH)
 dN:(t.bS == sysModules)=false
 js:(t.fD == sysModules)=false
 cT:Cls K t.aH
 b8:NoAttr K t.aH "kind"
 cJ:NoAttr K t.aH "base"
 b9:NoAttr K t.aH "laid"
 bI:NoAttr K t.aH "pourings"
 lY:mg "TEXT_BASE" = some (.int 27 t.eh)
 qO:mg "FIGURES" = some (.str "0123456789" t.gM)
 qP:mg "LETTERS" = some (.str "abcdefghijklmnopqrstuvwxyz" t.gN)
 g8:mg "MOST_LETTERS" = some (.int 20 t.cV)
 jr:mg "MOST_BOTTOM" = some (.int 60 t.dh)
 g7:mg "MOST_FIGURES" = some (.int 18 t.cU)
 kL:mg "LEAST_BASE" = some (.int 2 t.dC)
 lX:mg "MOST_BASE" = some (.int 64 t.ee)
 gL:mg "MOST_KEYS" = some (.int 200 t.ef)
theorem mR:bootBuiltins "abs" = some (.builtin "abs"):=by decide +kernel
theorem uS:bootBuiltins "all" = some (.builtin "all"):=by decide +kernel
theorem wZ:bootBuiltins "bool" = some (.type "bool"):=by decide +kernel
theorem kh:bootBuiltins "int" = some (.type "int"):=by decide +kernel
theorem bu:bootBuiltins "isinstance" = some (.builtin "isinstance"):=by decide +kernel
theorem aK:bootBuiltins "len" = some (.builtin "len"):=by decide +kernel
theorem gB:bootBuiltins "list" = some (.type "list"):=by decide +kernel
theorem uT:bootBuiltins "max" = some (.builtin "max"):=by decide +kernel
theorem qe:bootBuiltins "min" = some (.builtin "min"):=by decide +kernel
theorem uU:bootBuiltins "ord" = some (.builtin "ord"):=by decide +kernel
theorem qf:bootBuiltins "sorted" = some (.builtin "sorted"):=by decide +kernel
theorem eV:bootBuiltins "str" = some (.type "str"):=by decide +kernel
theorem iz:bootBuiltins "sum" = some (.builtin "sum"):=by decide +kernel
theorem bR:bootBuiltins "tuple" = some (.type "tuple"):=by decide +kernel
theorem sc_Desk___init__:FnScope ["self","kind","base"] ["self","kind","base"] (bj cE):=⟨rfl,rfl,rfl,by decide +kernel,rfl,by decide +kernel,by decide +kernel⟩
theorem sc_law:FnScope ["_law_script","_law_k","_law_tape_here","_law_kind","_law_keys_here","_law_rows","_law_way","_law_text","_law_due"] ["_law_script"] (bj je):=⟨rfl,rfl,rfl,by decide +kernel,rfl,by decide +kernel,by decide +kernel⟩
section
variable{P:Program}{w:World}{K:Ec}{mg:Str->Option Value}{base:Heap}{t:Ad}
theorem dJ(r:List Nat):NV r=(cR r).map Og:=pC r
section
variable{K:Ec}{H:Hp}{Q:VK}
theorem qg{lo hi:Option Int}(h1:H a=some (.lst xs))(h:∀p H',H p=none->Same H H'->H' p=some (.lst (kO xs lo hi))->Q (.ref p) H'):AH K (.ref a) lo hi H Q:=⟨a,xs,rfl,Oe h1,λp hp=>h p _ hp ((Oj H).new hp) af⟩
theorem gC{lo hi:Option Int}(h1:H a=some (.lst xs))(h:∀p H',Same H H'->H' p=some (.lst (kO xs lo hi))->Q (.ref p) H'):AH K (.ref a) lo hi H Q:=⟨a,xs,rfl,Oe h1,λp hp=>h p _ ((Oj H).new hp) af⟩
end
theorem bx (T:Tx K mg t):FnOk P t.wd K mg base CX0 1 (t.f 82) (t.d 82) ["_law_tape_here","_law_many_here"] za:=by
 refine okT (N:=["_law_tape_here","_law_many_here","_law_found","_law_once","_law_twice"]) (T.fn 82 rfl) (λH Q hr nd h=>?_)
 ·obtain⟨p,m,rfl,⟨a,b,c,hp,ha⟩,hm,hm2,k⟩:=h
  refine⟨_,(ae (a8 (av lp (aJ (a9 (K:=K)) (qv 0) ag) ag (aw _)) (ae (aD (i:=2) (az gS (aJ (a9 (K:=K)) (qv 0) ag) (qv 1)))
   (ae (ia (az da (aJ (a9 (K:=K)) (qv 0) ag) (qv 1)) (qv 0) ag)
   (ai (au (qv 2))))) aG)
   (ae (ia (az cW (aJ (a9 (K:=K)) (qv 0) ag) ag) (qv 0) ag)
   (ae (aD (i:=3) (az gS (az fe (az cW (aJ (a9 (K:=K)) (qv 0) ag) (az fe ag (aJ (a9 (K:=K)) (qv 0) ag))) ag) ag))
   (ae (aD (i:=4) (az gS (az fe (qv 3) (az cW (az gS (qv 3) ag) (aJ (a9 (K:=K)) (qv 0) ag))) ag))
   (ai (au (az gS (az da (az fe (qv 4) (az cW (az gS (qv 4) ag) ag)) ag) (qv 1)))))))),?_⟩
  dsimp only[st0];nofun;refine aP (λh0=>?_) (λh0=>?_)
  ·nofun
   exact k _ _ (L0 _ ⋯) (KB _ hm) (Tape.mk (Int.ediv_nonneg ha ⋯))
  ·nofun
   exact k _ _ (L0 _ ⋯) (KB _ hm) (Tape.mk ha)
theorem w5 (T:Tx K mg t):FnOk P t.wd K mg base CX0 1 (t.f 81) (t.d 81) ["_law_script","_law_k"] (y9 K):=by
 refine okT (N:=["_law_script","_law_k","_law_cell"]) (T.fn 81 rfl) (λH Q hr nd h=>?_)
 ·obtain⟨a,ns,k,rfl,hS,hk,q⟩:=h
  refine⟨_,(ae (aD (i:=2) (mh (av pe (qv 1) (ak (aV (K:=K)) (by rfl) T.bg aK (ah (qv 0) aa)) (aw _)) (aJ (a9 (K:=K)) (qv 0) (qv 1)) ag))
   (ai (au (aO (ah (az fe (ak mj (by rfl) T.lZ mR (ah (qv 2) aa)) (aM ph (by rfl) T.kN kh (ah (c6 BY (ak mj (by rfl) T.lZ mR (ah (qv 2) aa)) (az wk ag ag) (aw _)) aa))) (ah (az gS (az cW (az cW (qv 2) (az fe ag (qv 1))) ag) ag) (ah ag aa))))))),?_⟩
  dsimp only[st0];nofun;refine aE hS ?_;nofun;refine aP (λh0=>?_) (λh0=>?_)
  ·nofun
   have hlt:k.toNat<ns.length:=by rw[Ea]at h0;lia
   have hget:atI (ns.map Og) k=some (Og ns[k.toNat]):=by
    have e:k=(k.toNat:Int):=by lia
    have:=aT (xs:=ns.map Og) (j:=k.toNat) (v:=Og ns[k.toNat]) (by simp[hlt]);rw[<-e]at this;exact this
   refine bz hS hget ?_;generalize ns[k.toNat]=cell;nofun;exact⟨ax (by simp),λp hp=>q p _ hp (λb o e=>by rw[ar (aj e hp)];exact e) ⟨_,_,_,af,Mg (by split<;>lia) (by(repeat' split)<;>lia)⟩⟩
  ·nofun
   exact⟨ax (by simp),λp hp=>q p _ hp (λb o e=>by rw[ar (aj e hp)];exact e) ⟨_,_,_,af,Mg (by split<;>lia) (by(repeat' split)<;>lia)⟩⟩
theorem w6 (T:Tx K mg t):FnOk P t.wd K mg base CX0 2 (t.f 84) (t.d 84) ["_law_tape_here"] zb:=by
 refine okT (N:=["_law_tape_here"]) (T.fn 84 rfl) (λH Q hr nd h=>?_)
 ·obtain⟨p,rfl,hT,k⟩:=h
  refine⟨_,(ai (au (aJ (a9 (K:=K)) (aO (ah ag (ah ag (ah ag (ah ag (ah ag (ah (az cW ag (aA (bx T) hr (T.fn 82 rfl) (ah (qv 0) (ah ag aa)))) aa))))))) (aA (bx T) hr (T.fn 82 rfl) (ah (qv 0) (ah ag aa)))))),?_⟩;dsimp only[st0];nofun;refine⟨p,63,rfl,hT,by decide,by decide,λr H1 r0 r1 S1=>?_⟩;nofun;refine⟨ax (by simp),λq hq=>?_⟩;nofun;refine⟨p,6,rfl,(S1.new hq).tape,by decide,by decide,λr' H2 q0 q1 S2=>?_⟩;obtain⟨v,e,hv⟩:=dY (xs:=[Og 2,Og 3,Og 10,Og 16,Og 64,Og (2+r)]) q0 q1;refine bz (Oe (S2.keep q _ af (S1.tape.ne hq))) e ?_;simp only[EA,EZ,or_false]at hv;rcases hv with rfl|rfl|rfl|rfl|rfl|rfl<;>exact k _ _ ⋯ ⋯ ((S1.new hq).trans S2)
def xf:Sp:=λvs H Q _=>∃(a:Addr) (os:List Nat) (n:Nat),vs=[.ref a]/\(H a=some (.lst (NV os))\/False)/\Ord os n/\n<=60/\∀H',Same H H'->Q (.bl true) H'
theorem lI (T:Tx K mg t):FnOk P t.wd K mg base CX0 1 (t.f 11) (t.d 11) ["thing"] xf:=by
 refine okT (N:=["thing","met","place"]) (T.fn 11 rfl) (λH Q hr nd h=>?_)
 ·obtain⟨a,os,n,rfl,hs,hO,hn,k⟩:=h
  have hlen:=hO.len;rcases hs with ta|ta
  ·refine⟨_,(ae (a8 (cL (ck (ak (wu (K:=K)) (by rfl) T.aZ bu (ah (qv 0) (ah (aU (ah (cQ rfl T.dD gB (v:=.ty "list") rfl) (ah (cQ rfl T.bT bR (v:=.ty "tuple") rfl) aa))) aa))))) (ai (au iS)) aG)
   (ae (aD (i:=1) (az jN (aO (ah iS aa)) (ak (aV (K:=K)) (by rfl) T.bg aK (ah (qv 0) aa))))
   (ae (bX EM rfl (aI (K:=K) (qv 0)) (ay (i:=2)) (ae (a8 (Ol (c7 (ck (ak (ic (K:=K)) (by rfl) T.aZ bu (ah (qv 2) (ah (cQ rfl T.ni wZ (v:=.ty "bool") rfl) aa)))) (di (cL (ck (ak (ic (K:=K)) (by rfl) T.aZ bu (ah (qv 2) (ah (cQ rfl T.kN kh (v:=.ty "int") rfl) aa)))))))) (ai (au iS)) aG)
   (ae (a8 (Ol (c7 (av pe (qv 2) ag (aw _)) (c7 (av BY (qv 2) (ak (aV (K:=K)) (by rfl) T.bg aK (ah (qv 0) aa)) (aw _)) (di (ck (aJ (a9 (K:=K)) (qv 1) (qv 2))))))) (ai (au iS)) aG)
   (ai (ia iS (qv 1) (qv 2))))))
   (ai (au iS))))),?_⟩
   dsimp only[st0];nofun;refine⟨ax (by simp),λtp htp=>?_⟩;obtain⟨H0,e9,s0,ttp⟩:=nwR htp (.tup [V.ty "list",V.ty "tuple"]);rw[e9];nofun;refine rT (s0 _ _ ta) ttp ?_;nofun;refine⟨ax (by simp),λq0 hq0=>?_⟩;obtain⟨H1,e9,s1,t0⟩:=nwS s0 hq0 (.lst [V.bl false]);rw[e9];nofun;refine aE (Oe (s1 _ _ ta)) ?_;rw[aC];refine⟨q0,_,_,rfl,rfl,t0,by lia,by lia,ax (by simp;lia),λm hm=>?_⟩;have efl:(Er ((os.length:Nat):Int).toNat [V.bl false]).flatten=(Er os.length false).map V.bl:=by
    show(Er os.length [V.bl false]).flatten=_
    rw[GD,FS]
   rw[efl];obtain⟨H2,e9,s2,tm⟩:=nwS s1 hm (.lst ((Er os.length false).map V.bl));rw[e9];have hmn:H m=none:=s1.free hm;nofun;refine⟨a,rfl,⟨_,Oe (s2 _ _ ta)⟩,cK (a:=a) (xs:=NV os) (λi σ H'=>Same H H'/\(∃met:List Bool,H' m=some (.lst (met.map V.bl))/\met.length=n/\∀(j x:Nat),os[j]? = some x->met[x]? = some (decide (j<i)))/\∃v,σ=[some (Oi a),some (Oi m),v]) ⟨s2,⟨_,tm,by simp[hlen],λj x e=>?_⟩,none,rfl⟩ (λi σ H' _ h=>Oe (h.1 _ _ ta)) ?_ ?_⟩
   ·have:=hO.lt x (Ez e)
    rw[Hg,if_pos ⋯];simp
   ·rintro i x σ H3 hx ⟨s3,⟨met,tm3,hml,hmt⟩,v,rfl⟩
    obtain⟨r,rfl,hr,hrm,hi⟩:=aF hx;have hrn:=hO.lt r hrm;have hmr:=hmt i r hr;rw[decide_eq_false (FC i)]at hmr;nofun;refine dQ ⋯ ?_;nofun;refine aE (Oe (s3 _ _ ta)) ?_;rw[aC];nofun;refine dQ ⋯ ?_;nofun;refine bz (Oe tm3) (aT (by rw[Eh,hmr];rfl)) ?_;nofun;refine hX tm3 (jR rfl (by rw[Ea];lia)) ?_;rw[<-M1];refine⟨s3.own hmn,⟨met.set r true,af,by simpa using hml,λj x e=>?_⟩,_,rfl⟩;rw[Hn];by_cases hrx:r=x
    ·subst hrx
     have:=hO.inj i j r hr e;subst this;rw[if_pos rfl,if_pos ⋯,decide_eq_true ⋯]
    ·rw[if_neg hrx,hmt j x e]
     have:j≠i:=λz=>hrx (by subst z;rw[hr]at e;exact EE e)
     congr 1;exact decide_eq_decide.mpr ⋯
   ·rintro σ H3 ⟨s3,_,v,rfl⟩
    nofun;exact k H3 s3
  ·exact ta.elim
def Cq(K:Ec):Sp:=λvs H Q _=>∃(a:Addr) (os:List Nat) (n:Nat),vs=[.ref a,.int n]/\(H a=some (.lst (NV os))\/False)/\Ord os n/\n<=60/\∀H',Same H H'->Q .non H'
theorem gY (T:Tx K mg t):FnOk P t.wd K mg base CX0 2 (t.f 12) (t.d 12) ["thing","many"] (Cq K):=by
 refine okT (N:=["thing","many"]) (T.fn 12 rfl) (λH Q hr nd h=>?_)
 ·obtain⟨a,os,n,rfl,hs,hO,hn,k⟩:=h
  refine⟨_,(ai (a8 (Ol (c7 (cL (ck (aA (lI T) hr (T.fn 11 rfl) (ah (qv 0) aa)))) (di (av zd (ak (aV (K:=K)) (by rfl) T.bg aK (ah (qv 0) aa)) (qv 1) (aw _))))) (ai c8) aG)),?_⟩;dsimp only[st0];nofun;refine⟨a,os,n,rfl,hs,hO,hn,λH1 s1=>?_⟩;nofun;refine⟨a,NV os,rfl,hs.elim (λh=>.inl (Oe (s1 _ _ h))) (λh=>h.elim),?_⟩;rw[aC,hO.len];nofun;refine vX rfl ?_;nofun;exact k H1 s1
theorem qh {K:Ec}{H:Hp}(s:H p=some (.tup xs)) (h:Q (.bl false) H):qT K [.ref p,.ty "list"] H Q:=⟨_,_,_,_,rfl,.tup s,rfl,h⟩
def zU:Sp:=λvs H Q _=>∃x,vs=[x]/\Th H x/\∀y H',Same H H'->ThE H' x y->Q y H'
theorem lJ (T:Tx K mg t):FnOk P t.wd K mg base CX0 1 (t.f 13) (t.d 13) ["thing"] zU:=by
 refine okT (N:=["thing","parts","firsts","part","at"]) (T.fn 13 rfl) (λH Q hr nd h=>?_)
 ·obtain⟨x,rfl,hx,k⟩:=h
  obtain⟨xs,hxl,hxs,hxc⟩:∃xs:List V,xs.length<=2/\(∀z∈xs,Sc z)/\((Sc x/\xs=[])\/∃t,x=.ref t/\H t=some (.tup xs)/\0<xs.length):=by
   rcases hx with h|⟨t,xs,rfl,ht,h0,h2,hs⟩
   ·exact⟨[],Eo _,(λz hz=>nomatch hz),.inl ⟨h,rfl⟩⟩
   ·exact⟨xs,h2,hs,.inr ⟨t,rfl,ht,h0⟩⟩
  refine⟨_,(ae (aD (i:=1) (aO (ah (qv 0) aa)))
   (ae (aD (i:=2) (aO aa))
   (ae (c9 EM (av pe (ak (aV (K:=K)) (by rfl) T.bg aK (ah (qv 2) aa)) (ak (aV (K:=K)) (by rfl) T.bg aK (ah (qv 1) aa)) (aw _)) (ae (aD (i:=3) (aJ (a9 (K:=K)) (qv 1) (ak (aV (K:=K)) (by rfl) T.bg aK (ah (qv 2) aa))))
   (ae (bC (bf (K:=K) (qv 2) (ah (ak (aV (K:=K)) (by rfl) T.bg aK (ah (qv 1) aa)) aa)))
   (ai (a8 (ck (ak (wD (K:=K)) (by rfl) T.aZ bu (ah (qv 3) (ah (aU (ah (cQ rfl T.dD gB (v:=.ty "list") rfl) (ah (cQ rfl T.bT bR (v:=.ty "tuple") rfl) aa))) aa)))) (ai (bC (nQ (K:=K) (qv 1) (ah (qv 3) aa)))) aG)))))
   (ae (bX EM rfl (jU rfl T.cf (ah (az dn (ak (aV (K:=K)) (by rfl) T.bg aK (ah (qv 1) aa)) ag) (ah (lj lq ag) (ah (lj lq ag) aa)))) (ay (i:=4)) (ae (aD (i:=3) (aJ (a9 (K:=K)) (qv 1) (qv 4)))
   (ai (a8 (ck (ak (ic (K:=K)) (by rfl) T.aZ bu (ah (qv 3) (ah (cQ rfl T.dD gB (v:=.ty "list") rfl) aa)))) (ai (ia (bL (gT (K:=K)) (qv 1) (bE (aJ (a9 (K:=K)) (qv 2) (qv 4))) (bE (az cW (aJ (a9 (K:=K)) (qv 2) (qv 4)) (ak (aV (K:=K)) (by rfl) T.bg aK (ah (qv 3) aa))))) (qv 1) (qv 4))) (ai (a8 (ck (ak (ic (K:=K)) (by rfl) T.aZ bu (ah (qv 3) (ah (cQ rfl T.bT bR (v:=.ty "tuple") rfl) aa)))) (ai (ia (aM (cM (K:=K)) (by rfl) T.bT bR (ah (bL (gT (K:=K)) (qv 1) (bE (aJ (a9 (K:=K)) (qv 2) (qv 4))) (bE (az cW (aJ (a9 (K:=K)) (qv 2) (qv 4)) (ak (aV (K:=K)) (by rfl) T.bg aK (ah (qv 3) aa))))) aa)) (qv 1) (qv 4))) aG))))))
   (ai (au (aJ (a9 (K:=K)) (qv 1) ag))))))),?_⟩
  dsimp only[st0];nofun;refine⟨ax (by simp),λpl hpl=>?_⟩;obtain⟨H1,e9,s1,tp1⟩:=nwR hpl (.lst [x]);rw[e9];nofun;refine⟨ax (by simp),λfl hfl=>?_⟩;have hfn:H fl=none:=s1.free hfl;have hpf:pl≠fl:=aj tp1 hfl;obtain⟨H2,e9,s2,e8,(tf2:H2 fl=some (.lst (NV [])))⟩:=nwD s1 hfl (.lst []);rw[e9];have tp2:=e8 _ _ tp1;nofun;refine⟨λc σ H'=>∃(fs:List Nat),c=1+xs.length - fs.length/\fs.length<=1+xs.length/\Same H H'/\H' fl=some (.lst (NV fs))/\((fs=[]/\H' pl=some (.lst [x]))\/(fs[0]? = some 1/\H' pl=some (.lst (x::xs))))/\∃v3 v4,σ=[some x,some (Oi pl),some (Oi fl),v3,v4],⟨_,[],rfl,by simp,s2,tf2,.inl ⟨rfl,tp2⟩,_,_,rfl⟩,?_⟩;rintro c σ H3 ⟨fs,rfl,hfs,s3,tf3,hcase,v3,v4,rfl⟩;rcases hcase with⟨rfl,tp3⟩|⟨hf0,tp3⟩
  ·nofun
   refine aE (Oe tf3) ?_;nofun;refine aE (Oe tp3) ?_;nofun;refine jL (by show((0:Nat):Int)<((1:Nat):Int);decide) ?_;refine⟨_,λ_ _ z=>z,?_⟩;nofun;refine aE (Oe tf3) ?_;nofun;refine⟨br tf3,?_⟩;nofun;refine aE (Oe tp3) ?_;nofun;refine aW tf3 (aq (by simp[aC])) ?_;have s4:=s3.own (o:=.lst (NV [1])) hfn;have tf4:(upd H3 fl (.lst (NV [1]))) fl=some (.lst (NV [1])):=af;have tp4:(upd H3 fl (.lst (NV [1]))) pl=some (.lst [x]):=by rw[ar hpf];exact tp3
   have eap:NV []++[Og (([x]:List V).length:Nat)]=NV [1]:=rfl;rw[eap];generalize upd H3 fl (.lst (NV [1]))=H4 at s4 tf4 tp4;nofun;refine⟨ax (by simp),λtp htp=>?_⟩;obtain⟨H5,e9,s5,e8,ttp⟩:=nwD s4 htp (.tup [V.ty "list",V.ty "tuple"]);rw[e9];have tf5:=e8 _ _ tf4;have tp5:=e8 _ _ tp4;nofun;rcases hxc with⟨hsc,rfl⟩|⟨t,rfl,ht,h0⟩
   ·refine mI ttp hsc ?_
    nofun;exact⟨_,by simp,[1],rfl,by simp,s5,tf5,.inr ⟨rfl,tp5⟩,_,_,rfl⟩
   ·refine sg (s5 _ _ ht) ttp ?_
    nofun;refine⟨br tp5,?_⟩;nofun;refine nR tp5 (s5 _ _ ht) (ax (by simp;lia)) ?_;exact⟨_,by simp,[1],rfl,by simp,s5.own hpl,by rw[ar (E2 hpf)];exact tf5,.inr ⟨rfl,af⟩,_,_,rfl⟩
  ·have hf1:0<fs.length:=bq hf0
   nofun;refine aE (Oe tf3) ?_;rw[aC];nofun;refine aE (Oe tp3) ?_;rw[EB];nofun;refine aP (λg=>?_) (λg=>?_)
   ·refine⟨_,λ_ _ z=>z,?_⟩
    have hlt:fs.length<1+xs.length:=by lia
    obtain⟨i,hi⟩:∃i,fs.length=i+1:=⟨fs.length - 1,by lia⟩
    have hix:i<xs.length:=by lia
    have hget:(x::xs)[fs.length]? = some xs[i]:=by rw[hi,Jr,D9 hix]
    nofun;refine aE (Oe tf3) ?_;rw[aC];refine bz (Oe tp3) (v:=xs[i]) (aT hget) ?_;have hsc:=hxs _ (Es hix);generalize xs[i]=part at hsc;nofun;refine⟨br tf3,?_⟩;nofun;refine aE (Oe tp3) ?_;rw[EB];nofun;refine aW tf3 (by rw[aC];exact aq ⋯) ?_;rw[bZ];obtain⟨H4,e9,s4,tf4,e8⟩:=owS s3 hfn (.lst (NV (fs++[xs.length+1])));rw[e9];have tp4:=e8 _ _ hpf tp3;nofun;refine⟨ax (by simp),λtp htp=>?_⟩;obtain⟨H5,e9,s5,e8,ttp⟩:=nwD s4 htp (.tup [V.ty "list",V.ty "tuple"]);rw[e9];have tf5:=e8 _ _ tf4;have tp5:=e8 _ _ tp4;nofun;refine mI ttp hsc ?_;nofun;exact⟨_,by rw[En,Fo];lia,fs++[xs.length+1],rfl,by rw[En,Fo];lia,s5,tf5,.inr ⟨by rw[Ep hf1];exact hf0,tp5⟩,_,_,rfl⟩
   ·have hfl2:fs.length=1+xs.length:=by lia
    nofun;refine aE (Oe tp3) ?_;rw[EB];nofun;refine⟨xs.length+1,rfl,by lia,gm (n:=xs.length+1) (λj σ H'=>Same H H'/\H' fl=some (.lst (NV fs))/\(∃y,H' pl=some (.lst (y::xs))/\(j<xs.length+1->y=x)/\(j=xs.length+1->ThE H' x y))/\∃v3 v4,σ=[some x,some (Oi pl),some (Oi fl),v3,v4]) ⟨s3,tf3,⟨x,tp3,λ_=>rfl,λh=>by lia⟩,_,_,rfl⟩ (λi σ H' hi _=>hi) (λσ H' _=>Ed _) ?_ ?_⟩
    ·rintro j x0 σ H4o H4 hj ⟨s4,tf4,⟨y,tp4,hy1,hy2⟩,v3,v4,rfl⟩ ⟨rfl,rfl⟩
     have hyx:=hy1 hj;subst hyx;by_cases hjm:j=xs.length
     ·have e0:xs.length+1 - 1 - j=0:=by lia
      rw[e0];nofun;refine bz (Oe tp4) (v:=y) (aT (j:=0) rfl) ?_;nofun;rcases hxc with⟨hsc,hxn⟩|⟨t,hyt,ht,h0⟩
      ·refine mJ hsc ?_
       nofun;refine mK hsc ?_;nofun;exact⟨s4,tf4,⟨y,tp4,λ_=>rfl,λ_=>.inl ⟨hsc,rfl⟩⟩,_,_,rfl⟩
      ·rw[hyt]
       have ht4:=s4 _ _ ht;refine qh ht4 ?_;nofun;refine rM ht4 ?_;nofun;refine bz (Oe tf4) (iW (i:=0) rfl hf0) ?_;nofun;refine⟨_,rfl,?_⟩;nofun;refine bz (Oe tf4) (iW (i:=0) rfl hf0) ?_;nofun;refine pb (Of ht4) ?_;nofun;refine⟨_,rfl,?_⟩;refine⟨pl,_,rfl,Oe tp4,λz hz=>?_⟩;have ecut:kO (y::xs) (some ((1:Nat):Int)) (some (((1:Nat):Int)+(xs.length:Nat)))=xs:=by
        have e1:((1:Nat):Int)+(xs.length:Nat)=((1+xs.length:Nat):Int):=by lia
        unfold kO;rw[e1,HT.fb,HT.fb,EB];have m1:min 1 (xs.length+1)=1:=by lia
        have m2:min (1+xs.length) (xs.length+1)=xs.length+1:=by lia
        rw[m1,m2,List.drop_succ_cons,Fw,Ee ⋯]
       rw[ecut];obtain⟨H5,e9,s5,e8,tz⟩:=nwD s4 hz (.lst xs);rw[e9];have tf5:=e8 _ _ tf4;have tp5:=e8 _ _ tp4;nofun;refine f9 (Oe tz) λu hu=>?_
       obtain⟨H6,e9,s6,e8,tu⟩:=nwD s5 hu (.tup xs);rw[e9];have tf6:=e8 _ _ tf5;have tp6:=e8 _ _ tp5;have hup:u≠pl:=λe=>by rw[e,tp5]at hu;cases hu
       nofun;refine hX tp6 (jR (i:=0) rfl (by simp)) ?_;have s7:=s6.own (o:=.lst ((y::xs).set 0 (Oi u))) hpl;refine⟨s7,by rw[ar (E2 hpf)];exact tf6,⟨Oi u,by rw[af];rfl,λh=>by lia,λ_=>.inr ⟨t,u,xs,rfl,rfl,s7 _ _ ht,by rw[ar hup];exact tu,h0,hxl,hxs⟩⟩,_,_,rfl⟩
     ·obtain⟨i,hi,hil⟩:∃i,xs.length+1 - 1 - j=i+1/\i<xs.length:=⟨xs.length - j - 1,by lia,by lia⟩
      rw[hi];have hsc:=hxs _ (Es hil);nofun;refine bz (Oe tp4) (v:=xs[i]) (aT (by rw[Jr,D9 hil])) ?_;generalize xs[i]=part at hsc;nofun;refine mJ hsc ?_;nofun;refine mK hsc ?_;nofun;exact⟨s4,tf4,⟨y,tp4,λ_=>rfl,λh=>by lia⟩,_,_,rfl⟩
    ·rintro σ H4 ⟨s4,tf4,⟨y,tp4,hy1,hy2⟩,v3,v4,rfl⟩
     nofun;refine bz (Oe tp4) (v:=y) (aT (j:=0) rfl) ?_;exact k y H4 s4 (hy2 rfl)
def Cr:Sp:=λvs H Q _=>∃(a c:Addr) (zs:List V) (os:List Nat) (n:Nat),vs=[.ref a,.ref c]/\(H a=some (.lst zs)\/H a=some (.tup zs))/\(∀z∈zs,Th H z)/\zs.length=n/\(H c=some (.lst (NV os))\/False)/\Ord os n/\n<=60/\
 ∀(l:Addr) (ys:List V) H',H l=none->Same H H'->H' l=some (.lst ys)->ys.length=n->(∀(k o:Nat) z,os[k]? = some o->zs[o]? = some z->∃y,ys[k]? = some y/\ThE H' z y)->Q (.ref l) H'
theorem qi{K:Ec}{H:Hp}(s:H p=some (.lst xs)\/H p=some (.tup xs))(h:Q (.int xs.length) H):yX K [.ref p] H Q:=s.elim (λs=>aE (Oe s) h) (λs=>pb (Of s) h)
theorem lK{H:Hp}(s:H p=some (.lst xs)\/H p=some (.tup xs))(e:Same H H1):H1 p=some (.lst xs)\/H1 p=some (.tup xs):=s.elim (λh=>.inl (e _ _ h)) (λh=>.inr (e _ _ h))
theorem zV (T:Tx K mg t):FnOk P t.wd K mg base CX0 3 (t.f 14) (t.d 14) ["things","order"] Cr:=by
 refine okT (N:=["things","order"]) (T.fn 14 rfl) (λH Q hr nd h=>?_)
 ·obtain⟨a,c,zs,os,n,rfl,ha,hT,hzn,hc,hO,hn,k⟩:=h
  have hlen:=hO.len;rcases hc with tc|tc
  ·refine⟨_,(ae (bC (aA (gY T) hr (T.fn 12 rfl) (ah (qv 1) (ah (ak (aV (K:=K)) (by rfl) T.bg aK (ah (qv 0) aa)) aa))))
   (ai (au (aS (N:=["place","things"]) (tgs:=["place"]) (frs:=["things"]) (ix:=[0]) ⟨rfl,by decide +kernel,rfl,by decide +kernel,rfl,rfl,⟨⟨rfl,rfl,_,rfl,rfl⟩,Ek⟩,⟨rfl,Ek⟩,rfl⟩ rfl (aI (K:=K) (qv 1)) (λ_ _ _ _=>(ay (i:=0))) (λ_ _ _ _=>(aA (lJ T) hr (T.fn 13 rfl) (ah (aJ (B9 (K:=K)) (qv 1) (qv 0)) aa))))))),?_⟩
   dsimp only[st0];nofun;refine qi ha ?_;rw[hzn];nofun;refine⟨c,os,n,rfl,.inl tc,hO,hn,λH1 s1=>?_⟩;have tc1:=s1 _ _ tc;nofun;refine⟨c,rfl,⟨_,Oe tc1⟩,aN (a:=c) (vs:=NV os) (λi ys σ H'=>Same H1 H'/\ys.length=i/\(∀(k o:Nat) z,k<i->os[k]? = some o->zs[o]? = some z->∃y,ys[k]? = some y/\ThE H' z y)/\∃v,σ=[v,some (Oi a)]) (by rw[aC];exact aq ⋯) (λi ys σ H' h=>h.2.1) (λi ys σ H' h=>Oe (h.1 _ _ tc1)) ⟨Oj _,rfl,λk o z h=>absurd h (L1 _),none,rfl⟩ ?_ ?_⟩
   ·rintro i ys σ H2 x hx ⟨s2,hyl,hys,v,rfl⟩
    have hil:=bq hx;obtain⟨o,rfl,ho,hom,hi⟩:=aF hx;have hon:o<zs.length:=by rw[hzn];exact hO.lt o hom
    have hz:=(hT _ (Es hon)).same (s1.trans s2);nofun;refine zy (lK ha (s1.trans s2)) (v:=zs[o]) (aT (by simp[hon])) ?_;refine⟨zs[o],rfl,hz,λy H3 s3 hy=>?_⟩;refine Om hil ⟨s2.trans s3,by simp[hyl],λk' o' z' hk' e1 e2=>?_,_,rfl⟩;by_cases e:k'=i
    ·subst e
     rw[ho]at e1;cases e1;rw[D9 hon]at e2;cases e2;exact⟨y,by rw[Ey ⋯,hyl,Gy];rfl,hy⟩
    ·obtain⟨y',g1,g2⟩:=hys k' o' z' ⋯ e1 e2
     exact⟨y',by rw[Ep (bq g1)];exact g1,g2.same s3⟩
   ·rintro ys σ H2 ⟨s2,hyl,hys,v,rfl⟩ l hl
    rw[aC]at hyl hys;refine k l ys _ (s1.free (s2.free hl)) ((s1.trans s2).new hl) af ⋯ λk' o z e1 e2=>?_
    obtain⟨y,g1,g2⟩:=hys k' o z (bq e1) e1 e2;exact⟨y,g1,g2.same ((Oj H2).new hl)⟩
  ·exact tc.elim
def RowsT(H:Hp)(ps:List Addr)(rss:List (List Nat)):Prop:=ps.length=rss.length/\∀(i:Nat) p r,ps[i]? = some p->rss[i]? = some r->H p=some (.tup (NV r))
theorem RowsT.same{H:Hp}(h:RowsT H ps rss)(e:Same H H1):RowsT H1 ps rss:=⟨h.1,λi p z a c=>e _ _ (h.2 i p z a c)⟩
theorem RowsT.snoc{H:Hp}{r:List Nat}(h:RowsT H ps rss)(e:H p=some (.tup (NV r))):RowsT H (ps++[p]) (rss++[r]):=by
 refine⟨by simp[h.1],λi q y a c=>?_⟩;rcases bM a with⟨l,a⟩|⟨l,a⟩
 ·rcases bM c with⟨_,c⟩|⟨l',c⟩
  ·exact h.2 i q y a c
  ·have:=h.1;lia
 ·rcases bM c with⟨l',c⟩|⟨_,c⟩
  ·have:=h.1;lia
  ·rw[a,c];exact e
def zW(rss:List (List Nat))(w b:Nat):Prop:=∀r∈rss,r.length=w/\∀x∈r,x<b
theorem qj{w:Nat}{r:List Nat}(h:zW rss w b)(hr:rss[i]? = some r)(hc:c<w):r[c]? = some (r.getD c 0)/\(cu rss c)[i]? = some (r.getD c 0):=by
 have hl:=(h r (Ez hr)).1;constructor
 ·have:c<r.length:=by lia
  simp[this]
 ·unfold cu
  rw[Eh,hr];rfl
theorem mS{w:Nat}(h:zW rss w b)(hc:c<w):∀o∈cu rss c,o<b:=λo ho=>by
 obtain⟨r,hr,rfl⟩:=EC.mp ho;obtain⟨h1,h2⟩:=h r hr;have:c<r.length:=by lia
 apply h2;rw[Eb,D9 this];exact Es this
theorem qk(rss:List (List Nat))(c:Nat):(cu rss c).length=rss.length:=by simp[cu]
def sY:Sp:=λvs H Q _=>∃(a:Addr) (os:List Nat) (b:Nat),vs=[.ref a,.int b]/\(H a=some (.lst (NV os))/\True)/\(∀o∈os,o<b)/\os.length<=200/\b<=64/\∀(l:Addr) H',H l=none->Same H H'->H' l=some (.lst (NV (cnt os b)))->Q (.ref l) H'
theorem gD (T:Tx K mg t):FnOk P t.wd K mg base CX0 1 (t.f 0) (t.d 0) ["row","base"] sY:=by
 refine okT (N:=["row","base","often","figure"]) (T.fn 0 rfl) (λH Q hr nd h=>?_)
 ·obtain⟨a,os,b,rfl,ta,hob,hol,hb,k⟩:=h
  obtain⟨ta,_⟩:=ta
  ·refine⟨_,(ae (aD (i:=2) (az jN (aO (ah ag aa)) (qv 1)))
   (ae (bX EM rfl (aI (K:=K) (qv 0)) (ay (i:=3)) (ai (mC (K:=K) (qv 2) (qv 3) ag)))
   (ai (au (qv 2))))),?_⟩
   dsimp only[st0];nofun;refine⟨ax (by simp),λq0 hq0=>?_⟩;obtain⟨H2,e9,s2,t0⟩:=nwR hq0 (.lst [Og 0]);rw[e9];nofun;refine⟨q0,_,_,rfl,rfl,t0,by lia,by lia,ax (by simp;lia),λm hm=>?_⟩;have efl:(Er ((b:Nat):Int).toNat [Og 0]).flatten=NV (cnt [] b):=by
    show(Er b [Og 0]).flatten=_
    rw[FS,NV,L2.cnt,FD];apply GS (by simp);intro i h1 h2;simp
   rw[efl];have hmn:H m=none:=s2.free hm;obtain⟨H3,e9,s3,tm⟩:=nwS s2 hm (.lst (NV (cnt [] b)));rw[e9];nofun;refine⟨a,rfl,⟨_,Oe (s3 _ _ ta)⟩,cK (a:=a) (xs:=NV os) (λi σ H'=>Same H H'/\H' m=some (.lst (NV (cnt (os.take i) b)))/\∃v,σ=[some (Oi a),some (Og b),some (Oi m),v]) ⟨s3,tm,none,rfl⟩ (λi σ H' _ h=>Oe (h.1 _ _ ta)) ?_ ?_⟩
   ·rintro i x σ H4 hx ⟨s4,tm4,v,rfl⟩
    obtain⟨o,rfl,ho,hom,hi⟩:=aF hx;have hlt:=hob o hom;nofun;refine⟨m,_,_,_,rfl,rfl,Oe tm4,by lia,eN (d7 hlt),?_⟩;nofun;refine⟨_,_,rfl,rfl,?_⟩;refine hX tm4 (jR rfl (by rw[aC,bF];exact hlt)) ?_;refine⟨s4.own hmn,?_,_,rfl⟩;rw[af,Em,ho];show some (HO.lst ((NV (cnt (os.take i) b)).set o (Og ((((os.take i).count o+1:Nat)):Int))))=some (HO.lst (NV (cnt (os.take i++[o]) b)))
    rw[mB,rY hlt]
   ·rintro σ H4 ⟨s4,tm4,v,rfl⟩
    rw[Ee (by rw[aC];exact Ed _)]at tm4;nofun;exact k m H4 hmn s4 tm4
def sZ:Sp:=λvs H Q _=>∃(a:Addr) (os:List Nat),vs=[.ref a]/\(H a=some (.lst (NV os))\/False)/\os.length<=64/\∀H',Same H H'->Q (.bl (eO os)) H'
theorem ki{os:List Nat}{o:Nat}(h:os[i]? = some o):jV (os.take (i+1))=jV (os.take i)++(if 0<o then[o]else[]):=by
 unfold jV;rw[Em,h,FW];congr 1;simp only[Mt];split<;>simp_all
theorem tw(os:List Nat)(i:Nat):(jV (os.take i)).length<=i:=by
 refine E5 (JW _ _) ?_;rw[EI];lia
theorem fB (T:Tx K mg t):FnOk P t.wd K mg base CX0 1 (t.f 5) (t.d 5) ["often"] sZ:=by
 refine okT (N:=["often"]) (T.fn 5 rfl) (λH Q hr nd h=>?_)
 ·obtain⟨a,os,rfl,ha,hol,k⟩:=h
  have e9:decide (((jV os).length:Int) > 1)=eO os:=by
   unfold eO;exact decide_eq_decide.mpr ⋯
  rcases ha with ta|ta
  ·refine⟨_,(ai (au (c6 lp (ak (aV (K:=K)) (by rfl) T.bg aK (ah (rW (N:=["many"]) (tgs:=["many"]) (frs:=[]) (ix:=[]) ⟨rfl,by decide +kernel,rfl,by decide +kernel,rfl,rfl,Ek,Ek,rfl⟩ rfl (aI (K:=K) (qv 0)) (λ_ _ _ _=>(ay (i:=0))) (λ_ _ _ _=>(qv 0)) (λ_ _ _ _=>(av lp (qv 0) ag (aw _)))) aa)) ag (aw _)))),?_⟩
   dsimp only[st0];nofun;refine⟨a,rfl,⟨_,Oe ta⟩,pG (a:=a) (vs:=NV os) (λi ys σ H'=>H'=H/\ys=NV (jV (os.take i))/\∃v,σ=[v]) (by rw[aC];exact aq ⋯) (λi ys σ H' h=>by rw[h.2.1,aC];exact tw os i) (λi ys σ H' h=>by rw[h.1];exact Oe ta) ⟨rfl,rfl,none,rfl⟩ ?_ ?_⟩
   ·rintro i ys σ H' x hx ⟨rfl,rfl,v,rfl⟩
    have hil:=bq hx;obtain⟨o,rfl,ho,_,_⟩:=aF hx;nofun;refine aP (λg=>?_) (λg=>?_)
    ·nofun
     refine Om hil ⟨rfl,?_,_,rfl⟩;rw[bZ,ki ho,if_pos ⋯]
    ·refine Om hil ⟨rfl,?_,_,rfl⟩
     rw[ki ho,if_neg ⋯,Fl]
   ·rintro ys σ H' ⟨rfl,rfl,v,rfl⟩ l hl
    rw[Ee (by rw[aC];exact Ed _)];nofun;refine aE (Oe af) ?_;rw[aC];nofun;rw[e9];exact k _ ((Oj H').new hl)
  ·exact ta.elim
def zX(K:Ec):Sp:=λvs H Q _=>∃(a:Addr) (ps:List Addr) (rss:List (List Nat)) (w:Nat),vs=[.ref a]/\H a=some (.lst (ps.map Oi))/\ps.length=rss.length/\(∀p,ps[0]? = some p->∃zs,(H p=some (.lst zs)\/H p=some (.tup zs))/\zs.length=w)/\Q (.int ((if rss=[]then 0 else w:Nat):Int)) H
theorem dv (T:Tx K mg t):FnOk P t.wd K mg base CX0 1 (t.f 2) (t.d 2) ["rows"] (zX K):=by
 refine okT (N:=["rows"]) (T.fn 2 rfl) (λH Q hr nd h=>?_)
 ·obtain⟨a,ps,rss,w,rfl,ta,hl,hw,k⟩:=h
  refine⟨_,(ae (a8 (cL (eH (K:=K) (qv 0))) (ai (au ag)) aG)
   (ai (au (ak (aV (K:=K)) (by rfl) T.bg aK (ah (aJ (a9 (K:=K)) (qv 0) ag) aa))))),?_⟩
  dsimp only[st0];nofun;refine⟨_,AN (Oe ta),?_⟩;cases ps with
  | nil=>
   have:rss=[]:=FA.mp hl.symm;rw[if_pos this]at k;nofun;exact k
  | cons p r=>
   have:rss≠[]:=λz=>by rw[z]at hl;simp at hl
   rw[if_neg this]at k;obtain⟨zs,hz,hzl⟩:=hw p rfl;refine cj ?_;nofun;refine bz (Oe ta) (v:=Oi p) (aT (j:=0) rfl) ?_;nofun;refine⟨p,zs,rfl,hz.elim (λh=>.inl (Oe h)) (λh=>.inr (Of h)),?_⟩;rw[hzl];nofun;exact k
def PrAt(H:Hp)(qs:List Addr)(ws:List (Nat×Nat)):Prop:=qs.length=ws.length/\∀(i:Nat) q s,qs[i]? = some q->ws[i]? = some s->H q=some (.tup [.int (s.1:Nat),.int (s.2:Nat)])
theorem PrAt.same{H:Hp}{ws:List (Nat×Nat)}(h:PrAt H qs ws)(s:Same H H1):PrAt H1 qs ws:=⟨h.1,λi q t a b=>s _ _ (h.2 i q t a b)⟩
theorem PrAt.own{H:Hp}{ws:List (Nat×Nat)}(h:PrAt H qs ws)(hl:H l=some (.lst xs)):PrAt (upd H l (.lst ys)) qs ws:=⟨h.1,λi q t a b=>by
 have e:=h.2 i q t a b;rw[ar (qV e hl (by intro c;cases c))];exact e⟩
theorem PrAt.snoc{H:Hp}{ws:List (Nat×Nat)}{s:Nat×Nat}(h:PrAt H qs ws)(e:H q=some (.tup [.int (s.1:Nat),.int (s.2:Nat)])):PrAt H (qs++[q]) (ws++[s]):=by
 refine⟨by simp[h.1],λi p y a b=>?_⟩;rcases bM a with⟨l,a⟩|⟨l,a⟩
 ·rcases bM b with⟨_,b⟩|⟨l',b⟩
  ·exact h.2 i p y a b
  ·have:=h.1;lia
 ·rcases bM b with⟨l',b⟩|⟨_,b⟩
  ·have:=h.1;lia
  ·rw[a,b];exact e
theorem PrAt.nil{H:Hp}:PrAt H [] []:=⟨rfl,λi q s h=>by simp at h⟩
theorem TrAt.nil{H:Hp}:TrAt H [] []:=⟨rfl,λi q s h=>by simp at h⟩
theorem fQ{r:List Nat}(h:rss[i]? = some r):rss.getD i []=r:=by rw[Eb,h];rfl
def zY:Sp:=λvs H Q _=>∃(a:Addr) (ps:List Addr) (rss:List (List Nat)),vs=[.ref a]/\H a=some (.lst (ps.map Oi))/\RowsT H ps rss/\rss.length<=60/\∀(l:Addr) H',H l=none->Same H H'->H' l=some (.lst (NV (bJ rss rss.length)))->Q (.ref l) H'
theorem xg (T:Tx K mg t):FnOk P t.wd K mg base CX0 1 (t.f 20) (t.d 20) ["rows"] zY:=by
 refine okT (N:=["rows","lengths","place","row"]) (T.fn 20 rfl) (λH Q hr nd h=>?_)
 ·obtain⟨a,ps,rss,rfl,ta,hR,hn,k⟩:=h
  have hpl:ps.length=rss.length:=hR.1;refine⟨_,(ae (aD (i:=1) (aO aa))
   (ae (bX EM rfl (gj (K:=K) rfl T.cb (ah (qv 0) aa)) (bo (K:=K) (n:=2) rfl (ao (ay (i:=2)) (ao (ay (i:=3)) aQ))) (ai (a8 (Ol (eJ (av lp (qv 2) ag (aw _)) (dZ (av (zx (K:=K) hr.units0) (aM (cM (K:=K)) (by rfl) T.bT bR (ah (aJ (a9 (K:=K)) (qv 0) (az dn (qv 2) ag)) aa)) (aM (cM (K:=K)) (by rfl) T.bT bR (ah (qv 3) aa)) (aw _))))) (ai (sh (K:=K) (qv 1) (lj lq ag) ag)) (ai (bC (bf (K:=K) (qv 1) (ah ag aa)))))))
   (ai (au (qv 1))))),?_⟩
  dsimp only[st0];nofun;refine⟨ax (by simp),λl hl=>?_⟩;obtain⟨H1,e9,s1,(tl:H1 l=some (.lst (NV (bJ rss 0))))⟩:=nwR hl (.lst []);rw[e9];nofun;refine⟨a,rfl,⟨_,Oe (s1 _ _ ta)⟩,gm (n:=rss.length) (λi σ H'=>Same H H'/\H' l=some (.lst (NV (bJ rss i)))/\∃v w,σ=[some (Oi a),some (Oi l),v,w]) ⟨s1,tl,none,none,rfl⟩ ?_ ?_ ?_ ?_⟩
  ·rintro i σ H2 hi ⟨s2,_⟩
   have hip:i<ps.length:=by lia
   exact⟨_,_,Oe (s2 _ _ ta),by rw[Eh,D9 hip];rfl⟩
  ·rintro σ H2 ⟨s2,_⟩
   exact⟨_,Oe (s2 _ _ ta),by rw[Ea];exact hpl⟩
  ·rintro i x σ H2 H3 hi ⟨s2,t2,v,w,rfl⟩ ⟨q,x1,rfl,hq,rfl,hx1⟩
   have hx2:=hx1 _ (Oe (s2 _ _ ta));obtain⟨p,rfl,hp,hpm,hip⟩:=aF hx2;refine aY af ?_;dsimp only[E4];obtain⟨H3,e9,s3,e8,_⟩:=nwD s2 hq (.tup [Og (i:Nat),Oi p]);rw[e9];have t3:=e8 _ _ t2;have hlr:=j5 rss i;nofun;refine aP (λg=>?_) (λg=>?_)
   ·have hi0:0<i:=by lia
    have e1:(i:Int) - 1=((i - 1:Nat):Int):=by lia
    have hip1:i - 1<ps.length:=by lia
    have ei:rss[i]? = some rss[i]:=by simp[hi]
    have ei1:rss[i - 1]? = some (rss[i - 1]'⋯):=D9 _;have tp:=s3 _ _ (hR.2 i p rss[i] hp ei);have tp1:=s3 _ _ (hR.2 (i - 1) ps[i - 1] _ (by simp[hip1]) ei1);nofun;rw[e1];refine bz (Oe (s3 _ _ ta)) (v:=Oi ps[i - 1]) (aT (by rw[Eh,D9 hip1];rfl)) ?_;nofun;refine⟨_,_,rfl,.inr ⟨Of tp1,?_⟩⟩;nofun;refine⟨p,_,rfl,.inr ⟨Of tp,?_⟩⟩;refine uF (ns:=cR _) (ms:=cR _) (Of (by rw[<-dJ];exact tp1)) (Of (by rw[<-dJ];exact tp)) ?_;have ev:HT.dq (cR (rss[i - 1]'⋯)) (cR rss[i])=!brk rss i:=by
     rw[HT.jY];unfold brk lxt;rw[fQ ei,fQ ei1]
    rw[ev];nofun;cases hb:brk rss i with
    | false=>
     nofun;obtain⟨i',rfl⟩:∃i',i=i'+1:=⟨i - 1,by lia⟩
     obtain⟨ys,z,ez⟩:=lC (gw rss i');have er:bJ rss (i'+1+1)=ys++[z+1]:=by rw[bJ,if_pos ⟨hi0,hb⟩,ez,gv]
     rw[ez]at t3;refine⟨l,_,Og (z:Nat),rfl,rfl,Oe t3,by rw[<-bZ,List.getLast?_concat],?_⟩;nofun;refine⟨_,_,rfl,rfl,?_⟩;refine hX t3 (j:=ys.length) (by rw[aC,En,Fo];unfold ixN;rw[if_neg (by decide),if_pos ⋯];congr 1;lia) ?_;refine⟨s3.own hl,?_,_,_,rfl⟩;rw[af,er];show some (HO.lst ((NV (ys++[z])).set ys.length (Og ((z+1:Nat):Int))))=_
     rw[mB];simp
    | true=>
     refine cj ?_;nofun;refine⟨br t3,?_⟩;nofun;refine aW t3 (by rw[aC];exact aq ⋯) ?_;refine⟨s3.own hl,?_,_,_,rfl⟩;rw[af,bJ,if_neg (λz=>by rw[hb]at z;exact Bool.noConfusion z.2)];exact congrArg (λz=>some (HO.lst z)) (bZ (bJ rss i) 1)
   ·have hi0:i=0:=by lia
    subst hi0;nofun;refine⟨br t3,?_⟩;nofun;refine aW t3 (by rw[aC];exact aq ⋯) ?_;refine⟨s3.own hl,?_,_,_,rfl⟩;rw[af];have e1:bJ rss (0+1)=[1]:=by show(if 0<0/\brk rss 0=false then xY (bJ rss 0)else bJ rss 0++[1])=[1];rw[if_neg ⋯];rfl
    rw[e1];rfl
  ·rintro σ H2 ⟨s2,t2,v,w,rfl⟩
   nofun;exact k l H2 hl s2 t2
def xh:Sp:=λvs H Q _=>∃(a:Addr) (ls:List Nat),vs=[.ref a]/\(H a=some (.lst (NV ls))\/False)/\ls.length<=200/\
 ∀(t st bh:Addr) (qs:List Addr) H',H st=none->H bh=none->Same H H'->H' t=some (.tup [.ref st,.ref bh])->H' st=some (.lst (qs.map Oi))->TrAt H' qs (rnd 0 ls).1->H' bh=some (.lst (NV (rnd 0 ls).2))->Q (.ref t) H'
theorem ql{ls:List Nat}(h:2*i<ls.length):(∃a b r,ls.drop (2*i)=a::b::r/\ls.drop (2*(i+1))=r)\/∃a,ls.drop (2*i)=[a]/\ls.drop (2*(i+1))=[]:=by
 have hd:ls.drop (2*(i+1))=(ls.drop (2*i)).drop 2:=by rw[He];congr 1
 have hl:(ls.drop (2*i)).length=ls.length - 2*i:=Ft ..;rw[hd];generalize ls.drop (2*i)=rem at hl
 match rem,hl with
 | [],hl=>simp at hl;lia
 | [a],_=>exact .inr ⟨a,rfl,rfl⟩
 | a::b::r,_=>exact .inl ⟨a,b,r,rfl,rfl⟩
theorem fF (T:Tx K mg t):FnOk P t.wd K mg base CX0 1 (t.f 23) (t.d 23) ["lengths"] xh:=by
 refine okT (N:=["lengths","steps","behind","first","at","both","last"]) (T.fn 23 rfl) (λH Q hr nd h=>?_)
 ·obtain⟨a,ls,rfl,hta,hn,k⟩:=h
  rcases hta with ta|ta
  ·refine⟨_,(ae (aD (i:=1) (aO aa))
   (ae (aD (i:=2) (aO aa))
   (ae (aD (i:=3) ag)
   (ae (bX EM rfl (pQ rfl T.cf (ah ag (ah (ak (aV (K:=K)) (by rfl) T.bg aK (ah (qv 0) aa)) (ah ag aa)))) (ay (i:=4)) (ae (aD (i:=5) (bL (gT (K:=K)) (qv 0) (bE (qv 4)) (bE (az cW (qv 4) ag))))
   (ae (aD (i:=6) (az cW (qv 3) (ak (ib (K:=K) rfl) (by rfl) T.jt iz (ah (qv 5) aa))))
   (ae (a8 (av fz (ak (aV (K:=K)) (by rfl) T.bg aK (ah (qv 5) aa)) ag (aw _)) (ai (bC (bf (K:=K) (qv 1) (ah (aU (ah (qv 3) (ah (az cW (qv 3) (aJ (a9 (K:=K)) (qv 5) ag)) (ah (qv 6) aa)))) aa)))) aG)
   (ae (bC (bf (K:=K) (qv 2) (ah (az dn (qv 6) (qv 3)) aa)))
   (ai (aD (i:=3) (qv 6))))))))
   (ai (au (aU (ah (qv 1) (ah (qv 2) aa))))))))),?_⟩
   dsimp only[st0];nofun;refine⟨ax (by simp),λst hst=>?_⟩;obtain⟨H1,e9,s1,(ts1:H1 st=some (.lst (([]:List Addr).map Oi)))⟩:=nwR hst (.lst []);rw[e9];nofun;refine⟨ax (by simp),λbh hbh=>?_⟩;have hbn:H bh=none:=s1.free hbh;have hsb:st≠bh:=aj ts1 hbh;obtain⟨H2,e9,s2,e8,(tb2:H2 bh=some (.lst (NV [])))⟩:=nwD s1 hbh (.lst []);rw[e9];have ts2:=e8 _ _ ts1;nofun;refine aE (Oe (s2 _ _ ta)) ?_;rw[aC];nofun;refine⟨ls.length,rfl,by lia,gm (n:=(ls.length+1) / 2) (λi σ H'=>Same H H'/\(∃(ss:List dj) (qs:List Addr) (bs:List Nat) (f:Nat),H' st=some (.lst (qs.map Oi))/\TrAt H' qs ss/\H' bh=some (.lst (NV bs))/\(rnd 0 ls).1=ss++(rnd f (ls.drop (2*i))).1/\(rnd 0 ls).2=bs++(rnd f (ls.drop (2*i))).2/\∃v4 v5 v6,σ=[some (Oi a),some (Oi st),some (Oi bh),some (Og (f:Nat)),v4,v5,v6])) ⟨s2,[],[],[],0,ts2,TrAt.nil,tb2,rfl,rfl,_,_,_,rfl⟩ (λi σ H' hi _=>hi) (λσ H' _=>Ed _) ?_ ?_⟩
   ·rintro i x σ H3o H3 hi ⟨s3,ss,qs,bs,f,ts3,T3,tb3,e1,e2,v4,v5,v6,rfl⟩ ⟨rfl,rfl⟩
    have h2i:2*i<ls.length:=by lia
    have hlen:=gr 0 ls;have hsl:ss.length<=ls.length:=by have:=congrArg Gq e1;rw[En]at this;lia
    have hbl:bs.length<=ls.length:=by have:=congrArg Gq e2;rw[En]at this;lia
    have hql:qs.length=ss.length:=T3.1;have ek:((2*i:Nat):Int)+2=((2*i+2:Nat):Int):=by lia
    nofun;refine⟨_,rfl,?_⟩;nofun;rw[ek];refine⟨_,rfl,?_⟩;refine gC (s3 _ _ ta) λz H4 s4 tz=>?_
    rw[wF ls h2i]at tz;have ts4:=s4 _ _ ts3;have T4:=T3.same s4;have tb4:=s4 _ _ tb3;rcases ql h2i with⟨p,q,r,er,er'⟩|⟨p,er,er'⟩
    ·rw[er,fi]at e1 e2
     rw[er]at tz;have etk:(p::q::r).take 2=[p,q]:=rfl;rw[etk]at tz;nofun;refine f7 (ns:=[p,q].map λx:Nat=>(x:Int)) (Oe (by rw[<-pC];exact tz)) ?_;rw[jX];have es:(f:Int)+(([p,q].sum:Nat):Int)=((f+p+q:Nat):Int):=by simp;lia
     nofun;rw[es];nofun;refine aE (Oe tz) ?_;nofun;refine jL rfl ?_;nofun;refine⟨br ts4,?_⟩;nofun;have ep:(f:Int)+((p:Nat):Int)=((f+p:Nat):Int):=by lia
     rw[ep];refine⟨ax (by simp),λu hu=>?_⟩;obtain⟨H5,e9,s5,tu⟩:=nwR hu (.tup [Og (f:Nat),Og ((f+p:Nat):Int),Og ((f+p+q:Nat):Int)]);rw[e9];nofun;refine aW (s5 _ _ ts4) (by rw[Ea,hql];exact aq ⋯) ?_;have s6:=(s3.trans (s4.trans s5)).own (o:=.lst (qs.map Oi++[Oi u])) hst;have ts6:(upd H5 st (.lst (qs.map Oi++[Oi u]))) st=some (.lst ((qs++[u]).map Oi)):=by rw[af,Ef];rfl
     have tb6:(upd H5 st (.lst (qs.map Oi++[Oi u]))) bh=some (.lst (NV bs)):=by rw[ar (E2 hsb)];exact s5 _ _ tb4
     have T6:TrAt (upd H5 st (.lst (qs.map Oi++[Oi u]))) (qs++[u]) (ss++[(f,f+p,f+p+q)]):=((T4.same s5).snoc tu).own (s5 _ _ ts4);generalize upd H5 st (.lst (qs.map Oi++[Oi u]))=H6 at s6 ts6 tb6 T6;nofun;refine⟨br tb6,?_⟩;have ed:((f+p+q:Nat):Int) - ((f:Nat):Int)=((p+q:Nat):Int):=by lia
     nofun;rw[ed];refine aW tb6 (by rw[aC];exact aq ⋯) ?_;rw[bZ];nofun;refine⟨s6.own hbn,ss++[(f,f+p,f+p+q)],qs++[u],bs++[p+q],f+p+q,by rw[ar hsb];exact ts6,T6.own tb6,af,?_,?_,_,_,_,rfl⟩
     ·rw[er',Fi];exact e1
     ·rw[er',Fi];exact e2
    ·rw[er,fj]at e1 e2
     rw[er]at tz;have etk:[p].take 2=[p]:=rfl;rw[etk]at tz;nofun;refine f7 (ns:=[p].map λx:Nat=>(x:Int)) (Oe (by rw[<-pC];exact tz)) ?_;rw[jX];have es:(f:Int)+(([p].sum:Nat):Int)=((f+p:Nat):Int):=by simp
     nofun;rw[es];nofun;refine aE (Oe tz) ?_;nofun;refine dQ (λz=>absurd (Og.inj z) (by show ¬(((1:Nat):Int)=2);decide)) ?_;nofun;refine⟨br tb4,?_⟩;have ed:((f+p:Nat):Int) - ((f:Nat):Int)=((p:Nat):Int):=by lia
     nofun;rw[ed];refine aW tb4 (by rw[aC];exact aq ⋯) ?_;rw[bZ];nofun;refine⟨(s3.trans s4).own hbn,ss,qs,bs++[p],f+p,by rw[ar hsb];exact ts4,T4.own tb4,af,?_,?_,_,_,_,rfl⟩
     ·rw[er',du];exact e1
     ·rw[er',du,Fl];exact e2
   ·rintro σ H3 ⟨s3,ss,qs,bs,f,ts3,T3,tb3,e1,e2,v4,v5,v6,rfl⟩
    have ed:ls.drop (2*((ls.length+1) / 2))=[]:=JH ⋯;rw[ed,du,Fl]at e1 e2;rw[<-e1]at T3;rw[<-e2]at tb3;nofun;refine⟨ax (by simp),λt ht=>?_⟩;exact k t st bh qs _ hst hbn (s3.new ht) af (by rw[ar (aj ts3 ht)];exact ts3) (T3.same ((Oj H3).new ht)) (by rw[ar (aj tb3 ht)];exact tb3)
  ·exact ta.elim
noncomputable def zZ(ss:List dj):Int:=(ss.map λs=>((s.2.2:Nat):Int) - ((s.1:Nat):Int)).sum
def tD:Sp:=λvs H Q _=>∃(a:Addr) (ls:List Nat),vs=[.ref a]/\(H a=some (.lst (NV ls))\/False)/\ls.length<=200/\
 ∀(t st:Addr) (qs:List Addr) H',H st=none->Same H H'->H' t=some (.tup [.ref st,.int (zZ (fk ls))])->H' st=some (.lst (qs.map Oi))->TrAt H' qs (fk ls)->Q (.ref t) H'
theorem fG (T:Tx K mg t):FnOk P t.wd K mg base CX0 2 (t.f 24) (t.d 24) ["lengths"] tD:=by
 refine okT (N:=["lengths","steps","stretches","done"]) (T.fn 24 rfl) (λH Q hr nd h=>?_)
 ·obtain⟨a,ls,rfl,hta,hn,k⟩:=h
  refine⟨_,(ae (aD (i:=1) (aO aa))
   (ae (aD (i:=2) (qv 0))
   (ae (c9 EM (av lp (ak (aV (K:=K)) (by rfl) T.bg aK (ah (qv 2) aa)) ag (aw _)) (ae (cv (aA (fF T) hr (T.fn 23 rfl) (ah (qv 2) aa)) (bo (K:=K) (n:=2) rfl (ao (ay (i:=3)) (ao (ay (i:=2)) aQ))))
   (ai (bC (jT (K:=K) (qv 1) (ah (qv 3) aa))))))
   (ai (au (aU (ah (qv 1) (ah (ak (ib (K:=K) rfl) (by rfl) T.jt iz (ah (aS (N:=["first","middle","last"]) (tgs:=["first","middle","last"]) (frs:=[]) (ix:=[]) ⟨rfl,by decide +kernel,rfl,by decide +kernel,rfl,rfl,Ek,Ek,rfl⟩ rfl (aI (K:=K) (qv 1)) (λ_ _ _ _=>(bo (K:=K) (n:=3) rfl (ao (ay (i:=0)) (ao (ay (i:=1)) (ao (ay (i:=2)) aQ))))) (λ_ _ _ _=>(az dn (qv 2) (qv 0)))) aa)) aa)))))))),?_⟩
  dsimp only[st0];nofun;refine⟨ax (by simp),λst hst=>?_⟩;obtain⟨H1,e9,s1,(ts1:H1 st=some (.lst (([]:List Addr).map Oi)))⟩:=nwR hst (.lst []);rw[e9];nofun;refine⟨λm σ H'=>∃(xs:List Nat) (sp:Addr) (ss:List dj) (qs:List Addr),m=xs.length/\Same H H'/\(H' sp=some (.lst (NV xs))\/False)/\sp≠st/\H' st=some (.lst (qs.map Oi))/\TrAt H' qs ss/\fk ls=ss++fk xs/\ss.length+xs.length<=200/\∃v3,σ=[some (Oi a),some (Oi st),some (Oi sp),v3],⟨_,ls,a,[],[],rfl,s1,.inl (s1 _ _ (hta.elim id FI)),hta.elim (λh=>aj h hst) (λh=>h.elim),ts1,TrAt.nil,rfl,by simpa using hn,_,rfl⟩,?_⟩;rintro m σ H2 ⟨xs,sp,ss,qs,rfl,s2,hsp,hne,ts2,T2,eA,hl,v3,rfl⟩;nofun;refine qi (hsp.imp id FI) ?_;rw[aC];nofun;refine aP (λg=>?_) (λg=>?_)
  ·refine⟨_,λ_ _ z=>z,?_⟩
   have hg:1<xs.length:=by lia
   obtain⟨r1,r2⟩:=gr 0 xs;nofun;refine⟨sp,xs,rfl,hsp,by lia,λt d bh us H3 hd hbh s3 tt td T3 tb=>?_⟩;refine aY tt ?_;dsimp only[E4];have ts3:=s3 _ _ ts2;have hul:us.length=(rnd 0 xs).1.length:=T3.1;have hql:qs.length=ss.length:=T2.1;nofun;refine⟨br ts3,?_⟩;nofun;refine j2 ts3 td (ax (by rw[Ea,Ea];lia)) ?_;rw[<-Ef];have hbs:bh≠st:=λe=>by rw[e,ts2]at hbh;cases hbh
   rw[gu hg]at eA;refine⟨(rnd 0 xs).2.length,by lia,(rnd 0 xs).2,bh,ss++(rnd 0 xs).1,qs++us,rfl,(s2.trans s3).own hst,.inl (by rw[ar hbs];exact tb),hbs,af,((T2.same s3).app T3).own ts3,by rw[Fi];exact eA,by rw[En];lia,_,rfl⟩
  ·have hg:¬ 1<xs.length:=by lia
   rw[eS hg,Fl]at eA;rw[<-eA]at T2;have hql:qs.length=(fk ls).length:=T2.1;have hal:(fk ls).length<=200:=by rw[eA];lia
   nofun;refine⟨st,rfl,⟨_,Oe ts2⟩,aN (a:=st) (vs:=qs.map Oi) (λi ys σ H'=>H'=H2/\i<=qs.length/\ys=(((fk ls).map λs=>((s.2.2:Nat):Int) - ((s.1:Nat):Int)).take i).map Og/\∃v w u,σ=[v,w,u]) (by rw[Ea];exact aq ⋯) (λi ys σ H' h=>by rw[h.2.2.1,Ea,EI,Ea];lia) (λi ys σ H' h=>by rw[h.1];exact Oe ts2) ⟨rfl,Eo _,rfl,none,none,none,rfl⟩ ?_ ?_⟩
   ·rintro i ys σ H' x hx ⟨rfl,_,rfl,v,w,u,rfl⟩
    have hil:=bq hx;obtain⟨q,rfl,hq,_,hi⟩:=aF hx;have hia:i<(fk ls).length:=by lia
    have tq:=T2.2 i q _ hq (D9 hia);refine df tq ?_;dsimp only[E4];nofun;refine Om hil ⟨rfl,hi,?_,_,_,_,rfl⟩;rw[Em,Eh,D9 hia,Ef];rfl
   rintro ys σ H' ⟨e',_,rfl,v,w,u,rfl⟩ z hz;subst e';rw[Ee (by rw[Ea,Ea];lia)];obtain⟨H3,e9,s3,s23,tz⟩:=nwD s2 hz (.lst (((fk ls).map λs=>((s.2.2:Nat):Int) - ((s.1:Nat):Int)).map Og));rw[e9];nofun;refine f7 (Oe tz) ?_;nofun;refine⟨ax (by simp),λt ht=>?_⟩;have ts3:=s23 _ _ ts2;exact k t st qs _ hst (s3.new ht) af (by rw[ar (aj ts3 ht)];exact ts3) ((T2.same s23).same ((Oj H3).new ht))
def qm:Sp:=λvs H Q _=>∃(n b m:Nat),vs=[.int n,.int b,.int m]/\2<=b/\b<=64/\m<=900/\n<b ^ m/\∀p H',H p=none->Same H H'->H' p=some (.tup ((dg n b m).map Og))->Q (.ref p) H'
theorem iA (T:Tx K mg t):FnOk P t.wd K mg base CX0 1 (t.f 29) (t.d 29) ["n","base","many"] qm:=by
 refine okT (N:=["n","base","many","lowest_first","rest","turn"]) (T.fn 29 rfl) (λH Q hr nd h=>?_)
 ·obtain⟨n,b,m,rfl,hb,hb2,hm,hn,q⟩:=h
  refine⟨_,(ae (aD (i:=3) (aO aa))
   (ae (aD (i:=4) (qv 0))
   (ae (bX EM rfl (eK rfl T.cf (ah (qv 2) aa)) (ay (i:=5)) (ae (bC (bf (K:=K) (qv 3) (ah (az gS (qv 4) (qv 1)) aa)))
   (ai (gh (i:=4) nd rfl (GM rfl) (qv 1) pf))))
   (ae (a8 (av lp (qv 4) ag (aw _)) (ai c8) aG)
   (ai (au (aM (cM (K:=K)) (by rfl) T.bT bR (ah (uC (K:=K) (qv 3)) aa)))))))),?_⟩
  dsimp only[st0];nofun;refine⟨ax (by simp),λl hl=>?_⟩;nofun;refine⟨m,rfl,by lia,by lia,fW (λi σ H'=>Same H H'/\H' l=some (.lst ((Ej i).map λj=>Og ((n / b ^ j % b:Nat):Int)))/\∃v,σ=[some (Og n),some (Og b),some (Og m),some (Oi l),some (Og ((n / b ^ i:Nat):Int)),v]) ⟨(Oj H).new hl,af,none,by simp⟩ ?_ ?_⟩
  ·rintro i σ H' hi ⟨sm,hL,v,rfl⟩
   nofun;refine⟨br hL,?_⟩;nofun;refine aW hL (by rw[Ea,E9];exact aq ⋯) ?_;nofun;have e1:((n / b ^ i:Nat):Int) / (b:Int)=((n / b ^ (i+1):Nat):Int):=by rw[<-dvp,Gb (n / b ^ i)]
   rw[e1];refine⟨sm.own hl,?_,_,rfl⟩;rw[af,List.range_succ,Ef,E1,Jf,Jn (n / b ^ i)]
  ·rintro σ H' ⟨sm,hL,v,rfl⟩
   have hz:n / b ^ (m:Int).toNat=0:=Nat.div_eq_of_lt hn;nofun;refine dQ (by rw[hz];decide) ?_;nofun;refine⟨l,_,rfl,Oe hL,λr hr0=>?_⟩;nofun;refine f9 (Oe af) λp hp=>?_
   refine q p _ ((sm.new hr0).free hp) ((sm.new hr0).new hp) ?_;rw[af];have:=zh n b m;rw[<-this];rfl
def Cs:Sp:=λvs H Q _=>∃(m n:Nat),vs=[.int m,.int n]/\Q (.int ((F6 m n:Nat):Int)) H
theorem b6 (T:Tx K mg t):FnOk P t.wd K mg base CX0 1 (t.f 30) (t.d 30) ["one","other"] Cs:=by
 refine okT (N:=["one","other","greater","less"]) (T.fn 30 rfl) (λH Q hr nd h=>?_)
 ·obtain⟨m,n,rfl,q⟩:=h
  refine⟨_,(ae (jM rfl nd (i:=2) (j:=3) rfl rfl (by decide) rfl rfl (ah (qv 0) (ah (qv 1) aa)))
   (ae (c9 EM (av lp (qv 3) ag (aw _)) (ai (jM rfl nd (i:=2) (j:=3) rfl rfl (by decide) rfl rfl (ah (qv 3) (ah (az gS (qv 2) (qv 3)) aa)))))
   (ai (au (qv 2))))),?_⟩
  dsimp only[st0];nofun;refine⟨λc σ H'=>H'=H/\∃(g l:Nat),σ=[some (Og m),some (Og n),some (Og g),some (Og l)]/\F6 g l=F6 m n/\l=c,⟨n,rfl,m,n,rfl,rfl,rfl⟩,?_⟩;rintro c σ H' ⟨rfl,g,l,rfl,e,rfl⟩;nofun;refine aP (λh1=>?_) (λh1=>?_)
  ·refine⟨_,λ_ _ z=>z,?_⟩
   nofun;have hl:0<l:=by lia
   rw[<-Jn];exact⟨g % l,Ig _ hl,rfl,l,g % l,rfl,by rw[mw hl,e],rfl⟩
  ·have hl:l=0:=by lia
   subst hl;rw[KC]at e;nofun;rw[e];exact q
def xi:Sp:=λvs H Q _=>∃(n b:Nat),vs=[.int n,.int b]/\2<=b/\b<=64/\n<2 ^ 199/\∀m:Nat,n<b ^ m->(0<m->b ^ (m - 1)<=n)->m<201->Q (.int m) H
theorem dw (T:Tx K mg t):FnOk P t.wd K mg base CX0 1 (t.f 28) (t.d 28) ["n","base"] xi:=by
 refine okT (N:=["n","base","many","rest"]) (T.fn 28 rfl) (λH Q hr nd h=>?_)
 ·obtain⟨n,b,rfl,hb,hb2,hn,q⟩:=h
  refine⟨_,(ae (aD (i:=2) ag)
   (ae (aD (i:=3) (qv 0))
   (ae (c9 EM (av lp (qv 3) ag (aw _)) (ae (gh (i:=3) nd rfl (GM rfl) (qv 1) pf)
   (ai (gh (i:=2) nd rfl (GM rfl) ag mi))))
   (ai (au (qv 2)))))),?_⟩
  dsimp only[st0];nofun;refine⟨λm σ H'=>H'=H/\∃(pl:Nat),σ=[some (Og n),some (Og b),some (Og pl),some (Og ((n / b ^ pl:Nat):Int))]/\(0<pl->b ^ (pl - 1)<=n)/\2 ^ pl<=2*n+1/\n / b ^ pl=m,⟨n,rfl,0,by simp,by lia,by lia,by simp⟩,?_⟩;rintro m σ H' ⟨rfl,pl,rfl,h1,h2,rfl⟩;nofun;refine aP (λh3=>?_) (λh3=>?_)
  ·refine⟨_,λ_ _ z=>z,?_⟩
   nofun;have hpos:0<n / b ^ pl:=L3.mp h3;have e1:((n / b ^ pl:Nat):Int) / (b:Int)=((n / b ^ (pl+1):Nat):Int):=by rw[<-dvp,Gb (n / b ^ pl)]
   have e2:(pl:Int)+1=((pl+1:Nat):Int):=by lia
   rw[e1,e2];have hlt:n / b ^ (pl+1)<n / b ^ pl:=by
    rw[<-dvp];exact Nat.div_lt_self hpos ⋯
   exact⟨n / b ^ (pl+1),hlt,rfl,pl+1,rfl,λ_=>by rw[IC];exact(Lz.mp hpos).2,rO hb hpos,rfl⟩
  ·have hz:n / b ^ pl=0:=Nat.eq_zero_of_not_pos λh=>h3 (L3.mpr h)
   nofun;refine q pl ?_ h1 ?_
   ·rcases Nat.div_eq_zero_iff.mp hz with h|h
    ·exact absurd h (Hz (JI ⋯))
    ·exact h
   ·have h4:2 ^ pl<2 ^ 201:=E6 h2 ⋯
    exact(Nat.pow_lt_pow_iff_right (by decide)).mp h4
def Few(ns:List Int):Prop:=ns.length<=200/\∀x∈ns,-(2 ^ 190)<x/\x<2 ^ 190
def z4(K:Ec):Sp:=λvs H Q _=>∃(a:Addr) (ns:List Int) (b:Nat),vs=[.ref a,.int b]/\(SqL K H a (ns.map Og)\/SqT K H a (ns.map Og))/\2<=b/\b<=64/\Few ns/\
 ∀(l:Addr) (ps:List Addr) (zs:List Nat) (m:Nat) H',H l=none->Same H H'->H' l=some (.lst (ps.map Oi))->RowsAt H' ps b m zs->Spelt ns b zs m->Q (.ref l) H'
theorem dU (T:Tx K mg t):FnOk P t.wd K mg base CX0 2 (t.f 33) (t.d 33) ["numbers","base"] (z4 K):=by
 refine okT (N:=["numbers","base","least","columns"]) (T.fn 33 rfl) (λH Q hr nd h=>?_)
 ·obtain⟨a,ns,b,rfl,hs,hb,hb2,⟨hlen,hbd⟩,q⟩:=h
  rcases hs with hs|hs
  ·refine⟨_,(ae (a8 (cL (eH (K:=K) (qv 0))) (ai (au (aO aa))) aG)
   (ae (aD (i:=2) (ak (pk (K:=K) rfl) (by rfl) T.oj qe (ah (qv 0) aa)))
   (ae (aD (i:=3) (aA (dw T) hr (T.fn 28 rfl) (ah (az dn (ak (pq (K:=K) rfl) (by rfl) T.l6 uT (ah (qv 0) aa)) (qv 2)) (ah (qv 1) aa))))
   (ai (au (aS (N:=["number","base","least","columns"]) (tgs:=["number"]) (frs:=["base","least","columns"]) (ix:=[1,2,3]) ⟨rfl,by decide +kernel,rfl,by decide +kernel,rfl,rfl,⟨⟨rfl,rfl,_,rfl,rfl⟩,⟨rfl,rfl,_,rfl,rfl⟩,⟨rfl,rfl,_,rfl,rfl⟩,Ek⟩,⟨rfl,rfl,rfl,Ek⟩,rfl⟩ rfl (aI (K:=K) (qv 0)) (λ_ _ _ _=>(ay (i:=0))) (λ_ _ _ _=>(aA (iA T) hr (T.fn 29 rfl) (ah (az dn (qv 0) (qv 2)) (ah (qv 1) (ah (qv 3) aa))))))))))),?_⟩
   dsimp only[st0];nofun;refine⟨_,AN hs,?_⟩;by_cases h0:ns=[]
   ·subst h0
    nofun;exact⟨ax (by simp),λl hl=>q l [] [] 0 _ hl ((Oj H).new hl) (by rw[af];rfl) ⟨rfl,λi p z e=>by simp at e⟩ (.inl ⟨rfl,rfl,rfl⟩)⟩
   ·have he:(ns.map Og).isEmpty=false:=by cases ns with|nil=>exact absurd rfl h0|cons x r=>rfl
    rw[he];refine cj ?_;nofun;refine pv (.inl hs) h0 λlo lo1 lo2=>?_
    nofun;refine pw (.inl hs) h0 λhi hi1 hi2=>?_
    nofun;have hd:hi - lo=(((hi - lo).toNat:Nat):Int):=by have:=lo2 hi hi1;lia
    rw[hd];refine⟨(hi - lo).toNat,b,rfl,hb,hb2,by have:=hbd hi hi1;have:=hbd lo lo1;lia,λm m1 m2 m3=>?_⟩;nofun;refine⟨a,rfl,⟨_,hs⟩,aN (a:=a) (vs:=ns.map Og) (λi ys σ H'=>Same H H'/\(∃ps:List Addr,ys=ps.map Oi/\ps.length=i/\i<=ns.length/\RowsAt H' ps b m ((ns.map λx=>(x - lo).toNat).take i))/\∃v,σ=[v,some (Og b),some (Og lo),some (Og m)]) (by rw[Ea];exact aq ⋯) (λi ys σ H' h=>by obtain⟨_,⟨ps,rfl,e,_⟩,_⟩:=h;rw[Ea,e]) (λi ys σ H' h=>h.1.seq hs) ⟨Oj _,⟨[],rfl,rfl,Eo _,rfl,λi p z h=>by simp at h⟩,none,rfl⟩ ?_ ?_⟩
    ·rintro i ys σ H' x hx ⟨sm,⟨ps,rfl,hpl,_,hR⟩,v,rfl⟩
     obtain⟨z,rfl,hz,hzm,hi'⟩:=aF hx;nofun;have h1:=lo2 z hzm;have h2:=hi2 z hzm;have ez:z - lo=(((z - lo).toNat:Nat):Int):=by lia
     rw[ez];refine⟨(z - lo).toNat,b,m,rfl,hb,hb2,by lia,by lia,λp H2 hp sm2 t2=>?_⟩;refine Om (by rw[Ea];exact hi') ⟨sm.trans sm2,⟨ps++[p],by rw[Ef];rfl,by simp[hpl],hi',?_⟩,_,rfl⟩;have et:(ns.map λx=>(x - lo).toNat).take (i+1)=(ns.map λx=>(x - lo).toNat).take i++[(z - lo).toNat]:=by rw[Em,Eh,hz];rfl
     rw[et];exact(hR.same sm2).snoc t2
    ·rintro ys σ H' ⟨sm,⟨ps,rfl,hpl,_,hR⟩,v,rfl⟩ l hl
     rw[Ee (by simp)]at hR;exact q l ps _ m _ (sm.free hl) (sm.new hl) af (hR.same ((Oj _).new hl)) (.inr ⟨lo,hi,lo1,hi1,λx hx=>⟨lo2 x hx,hi2 x hx⟩,rfl,m1,m2,m3⟩)
  ·refine⟨_,(ae (a8 (cL (eH (K:=K) (qv 0))) (ai (au (aO aa))) aG)
   (ae (aD (i:=2) (ak (pk (K:=K) rfl) (by rfl) T.oj qe (ah (qv 0) aa)))
   (ae (aD (i:=3) (aA (dw T) hr (T.fn 28 rfl) (ah (az dn (ak (pq (K:=K) rfl) (by rfl) T.l6 uT (ah (qv 0) aa)) (qv 2)) (ah (qv 1) aa))))
   (ai (au (aS (N:=["number","base","least","columns"]) (tgs:=["number"]) (frs:=["base","least","columns"]) (ix:=[1,2,3]) ⟨rfl,by decide +kernel,rfl,by decide +kernel,rfl,rfl,⟨⟨rfl,rfl,_,rfl,rfl⟩,⟨rfl,rfl,_,rfl,rfl⟩,⟨rfl,rfl,_,rfl,rfl⟩,Ek⟩,⟨rfl,rfl,rfl,Ek⟩,rfl⟩ rfl (hZ (K:=K) (qv 0)) (λ_ _ _ _=>(ay (i:=0))) (λ_ _ _ _=>(aA (iA T) hr (T.fn 29 rfl) (ah (az dn (qv 0) (qv 2)) (ah (qv 1) (ah (qv 3) aa))))))))))),?_⟩
   dsimp only[st0];nofun;refine⟨_,DR hs,?_⟩;by_cases h0:ns=[]
   ·subst h0
    nofun;exact⟨ax (by simp),λl hl=>q l [] [] 0 _ hl ((Oj H).new hl) (by rw[af];rfl) ⟨rfl,λi p z e=>by simp at e⟩ (.inl ⟨rfl,rfl,rfl⟩)⟩
   ·have he:(ns.map Og).isEmpty=false:=by cases ns with|nil=>exact absurd rfl h0|cons x r=>rfl
    rw[he];refine cj ?_;nofun;refine pv (.inr hs) h0 λlo lo1 lo2=>?_
    nofun;refine pw (.inr hs) h0 λhi hi1 hi2=>?_
    nofun;have hd:hi - lo=(((hi - lo).toNat:Nat):Int):=by have:=lo2 hi hi1;lia
    rw[hd];refine⟨(hi - lo).toNat,b,rfl,hb,hb2,by have:=hbd hi hi1;have:=hbd lo lo1;lia,λm m1 m2 m3=>?_⟩;nofun;refine⟨a,rfl,⟨_,hs⟩,eL (a:=a) (vs:=ns.map Og) (λi ys σ H'=>Same H H'/\(∃ps:List Addr,ys=ps.map Oi/\ps.length=i/\i<=ns.length/\RowsAt H' ps b m ((ns.map λx=>(x - lo).toNat).take i))/\∃v,σ=[v,some (Og b),some (Og lo),some (Og m)]) (by rw[Ea];exact aq ⋯) (λi ys σ H' h=>by obtain⟨_,⟨ps,rfl,e,_⟩,_⟩:=h;rw[Ea,e]) (λi ys σ H' h=>h.1.tup hs) ⟨Oj _,⟨[],rfl,rfl,Eo _,rfl,λi p z h=>by simp at h⟩,none,rfl⟩ ?_ ?_⟩
    ·rintro i ys σ H' x hx ⟨sm,⟨ps,rfl,hpl,_,hR⟩,v,rfl⟩
     obtain⟨z,rfl,hz,hzm,hi'⟩:=aF hx;nofun;have h1:=lo2 z hzm;have h2:=hi2 z hzm;have ez:z - lo=(((z - lo).toNat:Nat):Int):=by lia
     rw[ez];refine⟨(z - lo).toNat,b,m,rfl,hb,hb2,by lia,by lia,λp H2 hp sm2 t2=>?_⟩;refine Om (by rw[Ea];exact hi') ⟨sm.trans sm2,⟨ps++[p],by rw[Ef];rfl,by simp[hpl],hi',?_⟩,_,rfl⟩;have et:(ns.map λx=>(x - lo).toNat).take (i+1)=(ns.map λx=>(x - lo).toNat).take i++[(z - lo).toNat]:=by rw[Em,Eh,hz];rfl
     rw[et];exact(hR.same sm2).snoc t2
    ·rintro ys σ H' ⟨sm,⟨ps,rfl,hpl,_,hR⟩,v,rfl⟩ l hl
     rw[Ee (by simp)]at hR;exact q l ps _ m _ (sm.free hl) (sm.new hl) af (hR.same ((Oj _).new hl)) (.inr ⟨lo,hi,lo1,hi1,λx hx=>⟨lo2 x hx,hi2 x hx⟩,rfl,m1,m2,m3⟩)
def xj(K:Ec):Sp:=λvs H Q _=>∃(a:Addr) (ps:List Addr) (tb:List (Int×Nat)),vs=[.ref a]/\(∀z∈tb,1<=z.2/\z.2<=60)/\
 ((SqL K H a (ps.map Oi)/\jP H ps tb)\/(SqT K H a (ps.map Oi)/\jP H ps tb))/\Q (.int ((d6 (tb.map (·.2)):Nat):Int)) H
theorem dy (T:Tx K mg t):FnOk P t.wd K mg base CX0 2 (t.f 31) (t.d 31) ["parts"] (xj K):=by
 refine okT (N:=["parts","least","top","bottom"]) (T.fn 31 rfl) (λH Q hr nd h=>?_)
 ·obtain⟨a,ps,tb,rfl,hb,hs,q⟩:=h
  have hbs:∀b∈tb.map (·.2),1<=b/\b<=60:=λb h=>by
   obtain⟨z,hz,rfl⟩:=EC.mp h;exact hb z hz
  have hpos:∀i,0<d6 ((tb.map (·.2)).take i):=λi=>mv λb h=>hbs b (F4 h)
  rcases hs with⟨hs,hP⟩|⟨hs,hP⟩
  ·refine⟨_,(ae (aD (i:=1) ag)
   (ae (bX EM rfl (aI (K:=K) (qv 0)) (bo (K:=K) (n:=2) rfl (ao (ay (i:=2)) (ao (ay (i:=3)) aQ))) (ai (aD (i:=1) (az fe (az da (qv 1) (aA (b6 T) hr (T.fn 30 rfl) (ah (qv 1) (ah (qv 3) aa)))) (qv 3)))))
   (ai (au (qv 1))))),?_⟩
   dsimp only[st0];nofun;refine⟨a,rfl,⟨_,hs⟩,cK (a:=a) (xs:=ps.map Oi) (λi σ H'=>H'=H/\∃v w,σ=[some (Oi a),some (Og ((d6 ((tb.map (·.2)).take i):Nat):Int)),v,w]) ⟨rfl,none,none,rfl⟩ (λi σ H' _ ⟨e,_⟩=>by rw[e];exact hs) ?_ ?_⟩
   ·rintro i x σ H' hx ⟨rfl,v,w,rfl⟩
    rw[Eh]at hx;cases e:ps[i]? with
    | none=>rw[e]at hx;cases hx
    | some p=>
     rw[e]at hx;obtain rfl:Oi p=x:=EE hx;have hi:i<tb.length:=by rw[<-hP.1];exact(Ei.mp e).1
     have hz:=hP.2 i p tb[i] e (by simp[hi]);have hb2:=hb tb[i] (Es hi);have hget:(tb.map (·.2))[i]? = some tb[i].2:=by simp[hi]
     have hl:=jO _ i _ hget;have hp0:=hpos i;generalize d6 ((tb.map (·.2)).take i)=L at hl hp0 ⊢;rw[hl];generalize tb[i].2=c at hb2 hz ⊢;refine⟨p,_,rfl,Of hz,rfl,_,_,rfl,?_⟩;nofun;refine⟨_,_,rfl,?_⟩;nofun;refine⟨rfl,?_⟩;have hg1:0<F6 L c:=Js _ hp0;have hg2:F6 L c<=c:=II ⋯ (IX L c);have hst:=ml L c;nofun;refine⟨L,c,rfl,?_⟩;generalize F6 L c=g at hg1 hg2 hst ⊢;have e:(L:Int) / (g:Int)*(c:Int)=((GW L c:Nat):Int):=by rw[<-hst,Ih,Gb]
     nofun;rw[e];exact⟨rfl,_,_,rfl⟩
   ·rintro σ H' ⟨rfl,v,w,rfl⟩
    nofun;have el:(tb.map (·.2)).take (ps.map Oi).length=tb.map (·.2):=Ee (by simp[hP.1]);rw[el];exact q
  ·refine⟨_,(ae (aD (i:=1) ag)
   (ae (bX EM rfl (hZ (K:=K) (qv 0)) (bo (K:=K) (n:=2) rfl (ao (ay (i:=2)) (ao (ay (i:=3)) aQ))) (ai (aD (i:=1) (az fe (az da (qv 1) (aA (b6 T) hr (T.fn 30 rfl) (ah (qv 1) (ah (qv 3) aa)))) (qv 3)))))
   (ai (au (qv 1))))),?_⟩
   dsimp only[st0];nofun;refine⟨a,rfl,⟨_,hs⟩,oy (a:=a) (xs:=ps.map Oi) (λi σ H'=>H'=H/\∃v w,σ=[some (Oi a),some (Og ((d6 ((tb.map (·.2)).take i):Nat):Int)),v,w]) ⟨rfl,none,none,rfl⟩ (λi σ H' _ ⟨e,_⟩=>by rw[e];exact hs) ?_ ?_⟩
   ·rintro i x σ H' hx ⟨rfl,v,w,rfl⟩
    rw[Eh]at hx;cases e:ps[i]? with
    | none=>rw[e]at hx;cases hx
    | some p=>
     rw[e]at hx;obtain rfl:Oi p=x:=EE hx;have hi:i<tb.length:=by rw[<-hP.1];exact(Ei.mp e).1
     have hz:=hP.2 i p tb[i] e (by simp[hi]);have hb2:=hb tb[i] (Es hi);have hget:(tb.map (·.2))[i]? = some tb[i].2:=by simp[hi]
     have hl:=jO _ i _ hget;have hp0:=hpos i;generalize d6 ((tb.map (·.2)).take i)=L at hl hp0 ⊢;rw[hl];generalize tb[i].2=c at hb2 hz ⊢;refine⟨p,_,rfl,Of hz,rfl,_,_,rfl,?_⟩;nofun;refine⟨_,_,rfl,?_⟩;nofun;refine⟨rfl,?_⟩;have hg1:0<F6 L c:=Js _ hp0;have hg2:F6 L c<=c:=II ⋯ (IX L c);have hst:=ml L c;nofun;refine⟨L,c,rfl,?_⟩;generalize F6 L c=g at hg1 hg2 hst ⊢;have e:(L:Int) / (g:Int)*(c:Int)=((GW L c:Nat):Int):=by rw[<-hst,Ih,Gb]
     nofun;rw[e];exact⟨rfl,_,_,rfl⟩
   ·rintro σ H' ⟨rfl,v,w,rfl⟩
    nofun;have el:(tb.map (·.2)).take (ps.map Oi).length=tb.map (·.2):=Ee (by simp[hP.1]);rw[el];exact q
def tE(K:Ec):Sp:=λvs H Q _=>∃(a:Addr) (ps:List Addr) (tb:List (Int×Nat)),vs=[.ref a]/\tb.length<=200/\(∀z∈tb,1<=z.2/\z.2<=60)/\(∀z∈tb,-(10 ^ 18)<z.1/\z.1<10 ^ 18)/\
 ((SqL K H a (ps.map Oi)/\jP H ps tb)\/(SqT K H a (ps.map Oi)/\jP H ps tb))/\∀l,H l=none->Q (.ref l) (upd H l (.lst ((bH tb).map Og)))
theorem fH (T:Tx K mg t):FnOk P t.wd K mg base CX0 3 (t.f 32) (t.d 32) ["parts"] (tE K):=by
 refine okT (N:=["parts","least"]) (T.fn 32 rfl) (λH Q hr nd h=>?_)
 ·obtain⟨a,ps,tb,rfl,hlen,hb,ht,hs,q⟩:=h
  rcases hs with⟨hs,hP⟩|⟨hs,hP⟩
  ·refine⟨_,(ae (aD (i:=1) (aA (dy T) hr (T.fn 31 rfl) (ah (qv 0) aa)))
   (ai (au (aS (N:=["top","bottom","least"]) (tgs:=["top","bottom"]) (frs:=["least"]) (ix:=[1]) ⟨rfl,by decide +kernel,rfl,by decide +kernel,rfl,rfl,⟨⟨rfl,rfl,_,rfl,rfl⟩,Ek⟩,⟨rfl,Ek⟩,rfl⟩ rfl (aI (K:=K) (qv 0)) (λ_ _ _ _=>(bo (K:=K) (n:=2) rfl (ao (ay (i:=0)) (ao (ay (i:=1)) aQ)))) (λ_ _ _ _=>(az fe (qv 0) (az da (qv 2) (qv 1)))))))),?_⟩
   dsimp only[st0];nofun;refine⟨a,ps,tb,rfl,hb,.inl ⟨hs,hP⟩,?_⟩;nofun;refine⟨a,rfl,⟨_,hs⟩,aN (a:=a) (vs:=ps.map Oi) (λi ys σ H'=>H'=H/\i<=tb.length/\ys=((bH tb).take i).map Og/\∃v w,σ=[v,w,some (Og ((d6 (tb.map (·.2)):Nat):Int))]) (by rw[Ea,hP.1];exact aq ⋯) (λi ys σ H' h=>by rw[h.2.2.1,Ea,EI,bD];lia) (λi ys σ H' h=>by rw[h.1];exact hs) ⟨rfl,Eo _,rfl,none,none,rfl⟩ ?_ ?_⟩
   ·rintro i ys σ H' x hx ⟨rfl,_,rfl,v,w,rfl⟩
    have hil:=(Ei.mp hx).1;obtain⟨p,rfl,hp,_,hi⟩:=aF hx;have hit:i<tb.length:=by rw[<-hP.1];exact hi
    have hz:=hP.2 i p tb[i] hp (by simp[hit]);have hb1:=hb tb[i] (Es hit);have ht1:=ht tb[i] (Es hit);have et:(bH tb).take (i+1)=(bH tb).take i++[tb[i].1*((d6 (tb.map (·.2)) / tb[i].2:Nat):Int)]:=by
     rw[Em];unfold bH;rw[Eh];simp[hit]
    rw[et];generalize d6 (tb.map (·.2))=L;generalize tb[i]=z at hz hb1 ht1;refine aY hz ?_;dsimp only[E4];nofun;refine Om hil ⟨rfl,hit,?_,_,_,rfl⟩;rw[Ef,Gb];rfl
   ·rintro ys σ H' ⟨rfl,_,rfl,v,w,rfl⟩ l hl
    rw[Ee (by rw[bD,Ea,hP.1];exact Ed _)];exact q l hl
  ·refine⟨_,(ae (aD (i:=1) (aA (dy T) hr (T.fn 31 rfl) (ah (qv 0) aa)))
   (ai (au (aS (N:=["top","bottom","least"]) (tgs:=["top","bottom"]) (frs:=["least"]) (ix:=[1]) ⟨rfl,by decide +kernel,rfl,by decide +kernel,rfl,rfl,⟨⟨rfl,rfl,_,rfl,rfl⟩,Ek⟩,⟨rfl,Ek⟩,rfl⟩ rfl (hZ (K:=K) (qv 0)) (λ_ _ _ _=>(bo (K:=K) (n:=2) rfl (ao (ay (i:=0)) (ao (ay (i:=1)) aQ)))) (λ_ _ _ _=>(az fe (qv 0) (az da (qv 2) (qv 1)))))))),?_⟩
   dsimp only[st0];nofun;refine⟨a,ps,tb,rfl,hb,.inr ⟨hs,hP⟩,?_⟩;nofun;refine⟨a,rfl,⟨_,hs⟩,eL (a:=a) (vs:=ps.map Oi) (λi ys σ H'=>H'=H/\i<=tb.length/\ys=((bH tb).take i).map Og/\∃v w,σ=[v,w,some (Og ((d6 (tb.map (·.2)):Nat):Int))]) (by rw[Ea,hP.1];exact aq ⋯) (λi ys σ H' h=>by rw[h.2.2.1,Ea,EI,bD];lia) (λi ys σ H' h=>by rw[h.1];exact hs) ⟨rfl,Eo _,rfl,none,none,rfl⟩ ?_ ?_⟩
   ·rintro i ys σ H' x hx ⟨rfl,_,rfl,v,w,rfl⟩
    have hil:=(Ei.mp hx).1;obtain⟨p,rfl,hp,_,hi⟩:=aF hx;have hit:i<tb.length:=by rw[<-hP.1];exact hi
    have hz:=hP.2 i p tb[i] hp (by simp[hit]);have hb1:=hb tb[i] (Es hit);have ht1:=ht tb[i] (Es hit);have et:(bH tb).take (i+1)=(bH tb).take i++[tb[i].1*((d6 (tb.map (·.2)) / tb[i].2:Nat):Int)]:=by
     rw[Em];unfold bH;rw[Eh];simp[hit]
    rw[et];generalize d6 (tb.map (·.2))=L;generalize tb[i]=z at hz hb1 ht1;refine aY hz ?_;dsimp only[E4];nofun;refine Om hil ⟨rfl,hit,?_,_,_,rfl⟩;rw[Ef,Gb];rfl
   ·rintro ys σ H' ⟨rfl,_,rfl,v,w,rfl⟩ l hl
    rw[Ee (by rw[bD,Ea,hP.1];exact Ed _)];exact q l hl
def Ltr(n:Nat)(z:Str):Prop:=z.length<=n/\∀c∈z.cps.toList,97<=c/\c<=122
instance {n:Nat}{z:Str}:Decidable (Ltr n z):=by unfold Ltr;exact inferInstance
theorem DX:(Er ((n:Nat):Int).toNat [Og 0]).flatten=(Er n (0:Int)).map Og:=by
 rw[Fh,GD]
 induction n with
 | zero=>rfl
 | succ n ih=>rw[Fm,GI,ih,Fm];rfl
noncomputable def tF(m:Nat)(z:Str):List Int:=z.cps.toList.map (λc=>((c:Nat):Int) - 96)++Er (m - z.length) 0
def TRows(H:Hp)(ps:List Addr)(zs:List Str)(m:Nat):Prop:=ps.length=zs.length/\∀(i:Nat) (p:Addr) (z:Str),ps[i]? = some p->zs[i]? = some z->H p=some (.tup ((tF m z).map Og))
theorem TRows.same{H:Hp}{zs:List Str}(h:TRows H ps zs m)(s:Same H H'):TRows H' ps zs m:=⟨h.1,λi p z e1 e2=>s _ _ (h.2 i p z e1 e2)⟩
theorem TRows.snoc{H:Hp}{zs:List Str}(h:TRows H ps zs m)(hp:H p=some (.tup ((tF m z).map Og))):TRows H (ps++[p]) (zs++[z]) m:=by
 refine⟨by simp[h.1],λi p' z' e1 e2=>?_⟩;by_cases hi:i<ps.length
 ·rw[Ep hi]at e1
  rw[Ep (by rw[<-h.1];exact hi)]at e2;exact h.2 i p' z' e1 e2
 ·have hl:=(Ei.mp e1).1
  have e:i=ps.length:=by simp at hl;lia
  subst e;rw[Ey (Ed _)]at e1;rw[h.1,Ey (Ed _)]at e2;simp at e1 e2;rw[<-e1,<-e2];exact hp
def z5:Sp:=λvs H Q _=>∃(z:Str) (m:Nat),vs=[.str z,.int m]/\Ltr 30 z/\z.length<=m/\m<=30/\∀p H',H p=none->Same H H'->H' p=some (.tup ((tF m z).map Og))->Q (.ref p) H'
theorem gE (T:Tx K mg t):FnOk P t.wd K mg base CX0 1 (t.f 34) (t.d 34) ["text","columns"] z5:=by
 refine okT (N:=["text","columns","before_first","letters"]) (T.fn 34 rfl) (λH Q hr nd h=>?_)
 ·obtain⟨z,m,rfl,hz,hzm,hm,k⟩:=h
  have hzs:z.cps.size=z.length:=rfl;refine⟨_,(ae (aD (i:=2) (az dn (ak uJ (by rfl) T.qR uU (ah aB aa)) ag))
   (ae (iT (i:=3) (N:=["letter","before_first"]) (tgs:=["letter"]) (frs:=["before_first"]) (ix:=[2])  nd rfl (GM rfl) ⟨rfl,by decide +kernel,rfl,by decide +kernel,rfl,rfl,⟨⟨rfl,rfl,_,rfl,rfl⟩,Ek⟩,⟨rfl,Ek⟩,rfl⟩ rfl (uL (qv 0)) (λ_ _ _ _=>(ay (i:=0))) (λ_ _ _ _=>(az dn (ak uJ (by rfl) T.qR uU (ah (qv 0) aa)) (qv 1))))
   (ai (au (aM (cM (K:=K)) (by rfl) T.bT bR (ah (az ll (qv 3) (az jN (aO (ah ag aa)) (az dn (qv 1) (ak b5 (by rfl) T.bg aK (ah (qv 0) aa))))) aa)))))),?_⟩
  dsimp only[st0];nofun;refine⟨_,rfl,by decide +kernel,?_⟩;nofun;have e97:(((EU "a").cps.getD 0 0:Nat):Int) - 1=96:=by decide +kernel
  rw[e97];refine⟨z,rfl,iU (n:=z.cps.size) (λi ys σ H'=>H'=H/\ys=((z.cps.toList.take i).map (λc=>((c:Nat):Int) - 96)).map Og/\i<=z.cps.size/\∃v,σ=[v,some (Og 96)]) (aq (by have:=hz.1;lia)) (λi ys σ H' h=>by obtain⟨_,rfl,hi,_⟩:=h;simp;lia) ⟨rfl,rfl,Eo _,none,rfl⟩ (λi ys σ H' hi h=>hi) (λys σ H' h=>rfl) ?_ ?_⟩
  ·rintro i x ys σ H1 H2 hi ⟨rfl,rfl,_,v,rfl⟩ ⟨rfl,c,hc,rfl⟩
   nofun;refine⟨_,rfl,rfl,?_⟩;nofun;refine Om hi ⟨rfl,?_,hi,_,rfl⟩;have ec:z.cps.toList[i]? = some c:=by rw[GL];exact hc
   rw[Em,ec,Ef,Ef];rfl
  ·rintro ys σ H1 ⟨rfl,rfl,_,v,rfl⟩ a ha
   rw[Ee (by simp)];obtain⟨H2,e9,s1,t1⟩:=nwR ha (.lst ((z.cps.toList.map (λc=>((c:Nat):Int) - 96)).map Og));rw[e9];nofun;refine⟨ax (by simp),λb hb=>?_⟩;obtain⟨H3,e9,s2,e8,tb⟩:=nwD s1 hb (.lst [Og 0]);rw[e9];have t2:=e8 _ _ t1;nofun;refine⟨z,rfl,ax ⋯,?_⟩;nofun;have em:(m:Int) - (z.length:Int)=((m - z.length:Nat):Int):=by lia
   rw[em];refine⟨b,_,_,rfl,rfl,tb,by lia,by lia,ax (by simp only[EB,Fe,Fh];lia),λd hd=>?_⟩;rw[DX];obtain⟨H4,e9,s3,e8,td⟩:=nwD s2 hd (.lst ((Er (m - z.length) (0:Int)).map Og));rw[e9];have t3:=e8 _ _ t2;refine⟨a,d,_,_,rfl,rfl,t3,td,ax (by rw[Ea,Ea,Ea,E3,E7];lia),λe he=>?_⟩;have eq1:(z.cps.toList.map (λc=>((c:Nat):Int) - 96)).map Og++(Er (m - z.length) (0:Int)).map Og=(tF m z).map Og:=by unfold tF;rw[<-Ef]
   rw[eq1];obtain⟨H5,e9,s4,te⟩:=nwS s3 he (.lst ((tF m z).map Og));rw[e9];refine f9 (Oe te) λf hf=>?_
   nofun;exact k f _ (s4.free hf) (s4.new hf) af
def z6(zs:List Str)(m:Nat):Prop:=(∀z∈zs,z.length<=m)/\(zs=[]/\m=0\/∃z∈zs,z.length=m)
def xk(K:Ec):Sp:=λvs H Q _=>∃(a:Addr) (zs:List Str),vs=[.ref a]/\(SqL K H a (zs.map Oh)\/SqT K H a (zs.map Oh))/\zs.length<=200/\(∀z∈zs,Ltr 30 z)/\∀(l:Addr) (ps:List Addr) (m:Nat) H',H l=none->Same H H'->H' l=some (.lst (ps.map Oi))->TRows H' ps zs m->z6 zs m->m<=30->Q (.ref l) H'
theorem kj (T:Tx K mg t):FnOk P t.wd K mg base CX0 2 (t.f 35) (t.d 35) ["texts"] (xk K):=by
 refine okT (N:=["texts","columns"]) (T.fn 35 rfl) (λH Q hr nd h=>?_)
 ·obtain⟨a,zs,rfl,hs,hlen,hL,q⟩:=h
  rcases hs with hs|hs
  ·refine⟨_,(ae (aD (i:=1) (p7 (K:=K) rfl rfl T.l6 (ah (aS (N:=["text"]) (tgs:=["text"]) (frs:=[]) (ix:=[]) ⟨rfl,by decide +kernel,rfl,by decide +kernel,rfl,rfl,Ek,Ek,rfl⟩ rfl (aI (K:=K) (qv 0)) (λ_ _ _ _=>(ay (i:=0))) (λ_ _ _ _=>(ak b5 (by rfl) T.bg aK (ah (qv 0) aa)))) aa)))
   (ai (au (aS (N:=["text","columns"]) (tgs:=["text"]) (frs:=["columns"]) (ix:=[1]) ⟨rfl,by decide +kernel,rfl,by decide +kernel,rfl,rfl,⟨⟨rfl,rfl,_,rfl,rfl⟩,Ek⟩,⟨rfl,Ek⟩,rfl⟩ rfl (aI (K:=K) (qv 0)) (λ_ _ _ _=>(ay (i:=0))) (λ_ _ _ _=>(aA (gE T) hr (T.fn 34 rfl) (ah (qv 0) (ah (qv 1) aa)))))))),?_⟩
   dsimp only[st0];nofun;refine⟨a,rfl,⟨_,hs⟩,aN (a:=a) (vs:=zs.map Oh) (λi ys σ H'=>H'=H/\ys=((zs.take i).map λz=>((z.length:Nat):Int)).map Og/\i<=zs.length/\∃v,σ=[v]) (by rw[Ea];exact aq ⋯) (λi ys σ H' h=>by obtain⟨_,rfl,hi,_⟩:=h;simp;lia) (λi ys σ H' h=>by rw[h.1];exact hs) ⟨rfl,rfl,Eo _,none,rfl⟩ ?_ ?_⟩
   ·rintro i ys σ H' x hx ⟨rfl,rfl,_,v,rfl⟩
    obtain⟨z,rfl,hz,hzm,hi'⟩:=aF hx;nofun;refine⟨z,rfl,ax (by have:=(hL z hzm).1;lia),?_⟩;refine Om (by rw[Ea];exact hi') ⟨rfl,?_,hi',_,rfl⟩;rw[Em,hz,Ef,Ef];rfl
   ·rintro ys σ H' ⟨rfl,rfl,_,v,rfl⟩ l0 hl0
    rw[Ee (by simp)];obtain⟨H1,e9,s0,t0⟩:=nwR hl0 (.lst ((zs.map λz=>((z.length:Nat):Int)).map Og));rw[e9];nofun;refine⟨l0,_,rfl,Oe t0,λmm hmm=>?_⟩;obtain⟨m,rfl,hM⟩:∃m:Nat,mm=m/\z6 zs m:=by
     rcases hmm with⟨h0,rfl⟩|⟨h1,h2⟩
     ·have e0:zs=[]:=GZ.mp h0
      exact⟨0,rfl,by rw[e0];exact λz h=>(nomatch h),.inl ⟨e0,rfl⟩⟩
     ·obtain⟨z,hz,rfl⟩:=EC.mp h1
      refine⟨z.length,rfl,λy hy=>?_,.inr ⟨z,hz,rfl⟩⟩;have:=h2 _ (EC.mpr ⟨y,hy,rfl⟩);lia
    have hm:m<=30:=by
     rcases hM.2 with⟨_,rfl⟩|⟨z,hz,rfl⟩
     ·lia
     ·exact(hL z hz).1
    nofun;refine⟨a,rfl,⟨_,s0.seq hs⟩,aN (a:=a) (vs:=zs.map Oh) (λi ys σ H2=>Same H' H2/\(∃ps:List Addr,ys=ps.map Oi/\ps.length=i/\i<=zs.length/\TRows H2 ps (zs.take i) m)/\∃v,σ=[v,some (Og m)]) (by rw[Ea];exact aq ⋯) (λi ys σ H2 h=>by obtain⟨_,⟨ps,rfl,e,_⟩,_⟩:=h;rw[Ea,e]) (λi ys σ H2 h=>h.1.seq hs) ⟨s0,⟨[],rfl,rfl,Eo _,rfl,λi p z h=>by simp at h⟩,none,rfl⟩ ?_ ?_⟩
    ·rintro i ys σ H2 x hx ⟨sm,⟨ps,rfl,hpl,_,hR⟩,v,rfl⟩
     obtain⟨z,rfl,hz,hzm,hi'⟩:=aF hx;nofun;refine⟨z,m,rfl,hL z hzm,hM.1 z hzm,hm,λp H3 hp sm2 t2=>?_⟩;refine Om (by rw[Ea];exact hi') ⟨sm.trans sm2,⟨ps++[p],by rw[Ef];rfl,by simp[hpl],hi',?_⟩,_,rfl⟩;have et:zs.take (i+1)=zs.take i++[z]:=by rw[Em,hz];rfl
     rw[et];exact(hR.same sm2).snoc t2
    ·rintro ys σ H2 ⟨sm,⟨ps,rfl,hpl,_,hR⟩,v,rfl⟩ l hl
     rw[Ee (by simp)]at hR;exact q l ps m _ (sm.free hl) (sm.new hl) af (hR.same ((Oj _).new hl)) hM hm
  ·refine⟨_,(ae (aD (i:=1) (p7 (K:=K) rfl rfl T.l6 (ah (aS (N:=["text"]) (tgs:=["text"]) (frs:=[]) (ix:=[]) ⟨rfl,by decide +kernel,rfl,by decide +kernel,rfl,rfl,Ek,Ek,rfl⟩ rfl (hZ (K:=K) (qv 0)) (λ_ _ _ _=>(ay (i:=0))) (λ_ _ _ _=>(ak b5 (by rfl) T.bg aK (ah (qv 0) aa)))) aa)))
   (ai (au (aS (N:=["text","columns"]) (tgs:=["text"]) (frs:=["columns"]) (ix:=[1]) ⟨rfl,by decide +kernel,rfl,by decide +kernel,rfl,rfl,⟨⟨rfl,rfl,_,rfl,rfl⟩,Ek⟩,⟨rfl,Ek⟩,rfl⟩ rfl (hZ (K:=K) (qv 0)) (λ_ _ _ _=>(ay (i:=0))) (λ_ _ _ _=>(aA (gE T) hr (T.fn 34 rfl) (ah (qv 0) (ah (qv 1) aa)))))))),?_⟩
   dsimp only[st0];nofun;refine⟨a,rfl,⟨_,hs⟩,eL (a:=a) (vs:=zs.map Oh) (λi ys σ H'=>H'=H/\ys=((zs.take i).map λz=>((z.length:Nat):Int)).map Og/\i<=zs.length/\∃v,σ=[v]) (by rw[Ea];exact aq ⋯) (λi ys σ H' h=>by obtain⟨_,rfl,hi,_⟩:=h;simp;lia) (λi ys σ H' h=>by rw[h.1];exact hs) ⟨rfl,rfl,Eo _,none,rfl⟩ ?_ ?_⟩
   ·rintro i ys σ H' x hx ⟨rfl,rfl,_,v,rfl⟩
    obtain⟨z,rfl,hz,hzm,hi'⟩:=aF hx;nofun;refine⟨z,rfl,ax (by have:=(hL z hzm).1;lia),?_⟩;refine Om (by rw[Ea];exact hi') ⟨rfl,?_,hi',_,rfl⟩;rw[Em,hz,Ef,Ef];rfl
   ·rintro ys σ H' ⟨rfl,rfl,_,v,rfl⟩ l0 hl0
    rw[Ee (by simp)];obtain⟨H1,e9,s0,t0⟩:=nwR hl0 (.lst ((zs.map λz=>((z.length:Nat):Int)).map Og));rw[e9];nofun;refine⟨l0,_,rfl,Oe t0,λmm hmm=>?_⟩;obtain⟨m,rfl,hM⟩:∃m:Nat,mm=m/\z6 zs m:=by
     rcases hmm with⟨h0,rfl⟩|⟨h1,h2⟩
     ·have e0:zs=[]:=GZ.mp h0
      exact⟨0,rfl,by rw[e0];exact λz h=>(nomatch h),.inl ⟨e0,rfl⟩⟩
     ·obtain⟨z,hz,rfl⟩:=EC.mp h1
      refine⟨z.length,rfl,λy hy=>?_,.inr ⟨z,hz,rfl⟩⟩;have:=h2 _ (EC.mpr ⟨y,hy,rfl⟩);lia
    have hm:m<=30:=by
     rcases hM.2 with⟨_,rfl⟩|⟨z,hz,rfl⟩
     ·lia
     ·exact(hL z hz).1
    nofun;refine⟨a,rfl,⟨_,s0.tup hs⟩,eL (a:=a) (vs:=zs.map Oh) (λi ys σ H2=>Same H' H2/\(∃ps:List Addr,ys=ps.map Oi/\ps.length=i/\i<=zs.length/\TRows H2 ps (zs.take i) m)/\∃v,σ=[v,some (Og m)]) (by rw[Ea];exact aq ⋯) (λi ys σ H2 h=>by obtain⟨_,⟨ps,rfl,e,_⟩,_⟩:=h;rw[Ea,e]) (λi ys σ H2 h=>h.1.tup hs) ⟨s0,⟨[],rfl,rfl,Eo _,rfl,λi p z h=>by simp at h⟩,none,rfl⟩ ?_ ?_⟩
    ·rintro i ys σ H2 x hx ⟨sm,⟨ps,rfl,hpl,_,hR⟩,v,rfl⟩
     obtain⟨z,rfl,hz,hzm,hi'⟩:=aF hx;nofun;refine⟨z,m,rfl,hL z hzm,hM.1 z hzm,hm,λp H3 hp sm2 t2=>?_⟩;refine Om (by rw[Ea];exact hi') ⟨sm.trans sm2,⟨ps++[p],by rw[Ef];rfl,by simp[hpl],hi',?_⟩,_,rfl⟩;have et:zs.take (i+1)=zs.take i++[z]:=by rw[Em,hz];rfl
     rw[et];exact(hR.same sm2).snoc t2
    ·rintro ys σ H2 ⟨sm,⟨ps,rfl,hpl,_,hR⟩,v,rfl⟩ l hl
     rw[Ee (by simp)]at hR;exact q l ps m _ (sm.free hl) (sm.new hl) af (hR.same ((Oj _).new hl)) hM hm
def Rises(rss:List (List Int))(lt:Nat->Nat->Bool):Prop:=∀(i j:Nat) (r r':List Int),rss[i]? = some r->rss[j]? = some r'->HT.bG r r'=lt i j
noncomputable def ltN(ns:List Int)(i j:Nat):Bool:=decide (ns.getD i 0<ns.getD j 0)
noncomputable def ltP(tb:List (Int×Nat))(i j:Nat):Bool:=decide ((tb.getD i (0,1)).1*((tb.getD j (0,1)).2:Int)<(tb.getD j (0,1)).1*((tb.getD i (0,1)).2:Int))
noncomputable def ltT(zs:List Str)(i j:Nat):Bool:=decide ((zs.getD i ⟨#[]⟩).cps.toList<(zs.getD j ⟨#[]⟩).cps.toList)
theorem dz{α:Type}{xs:List α}{x d:α}(h:xs[i]? = some x):xs.getD i d=x:=by rw[Eb,h];rfl
theorem map_some{α β:Type}{f:α->β}{xs:List α}{y:β}(h:(xs.map f)[i]? = some y):∃x,xs[i]? = some x/\y=f x:=by
 rw[Eh]at h;cases e:xs[i]? with
 | none=>rw[e]at h;cases h
 | some x=>rw[e]at h;exact⟨x,rfl,(EE h).symm⟩
theorem fo{α:Type}{xs:List α}(h:i<xs.length):∃x,xs[i]? = some x:=⟨xs[i],by simp[h]⟩
theorem qo{ns:List Int}(h:Spelt ns b zs m)(hb:2<=b):Rises (zs.map λz=>dg z b m) (ltN ns):=by
 intro i j r r' e1 e2;obtain⟨z,hz,rfl⟩:=map_some e1;obtain⟨w,hw,rfl⟩:=map_some e2;obtain⟨x,hx⟩:=fo (xs:=ns) (i:=i) (by rw[<-h.len];exact(Ei.mp hz).1);obtain⟨y,hy⟩:=fo (xs:=ns) (i:=j) (by rw[<-h.len];exact(Ei.mp hw).1);unfold ltN;rw[dz hx,dz hy];exact h.lex hb hx hy hz hw
theorem xl{tb:List (Int×Nat)}(h:Spelt (bH tb) b zs m)(hb:2<=b)(hb1:∀z∈tb,1<=z.2/\z.2<=60):Rises (zs.map λz=>dg z b m) (ltP tb):=by
 intro i j r r' e1 e2;have q:=qo h hb i j r r' e1 e2;obtain⟨z0,hz0,rfl⟩:=map_some e1;obtain⟨w0,hw0,rfl⟩:=map_some e2;have l1:i<tb.length:=by rw[<-bD,<-h.len];exact(Ei.mp hz0).1
 have l2:j<tb.length:=by rw[<-bD,<-h.len];exact(Ei.mp hw0).1
 obtain⟨z,hz⟩:=fo l1;obtain⟨w,hw⟩:=fo l2;obtain⟨x,hx⟩:=fo (xs:=bH tb) (i:=i) (by rw[bD];exact l1);obtain⟨y,hy⟩:=fo (xs:=bH tb) (i:=j) (by rw[bD];exact l2);rw[q];unfold ltN ltP;rw[dz hx,dz hy,dz hz,dz hw];congr 1;exact propext (p9 hb1 hz hw hx hy)
theorem xm{zs:List Str}(hL:∀z∈zs,Ltr 30 z)(hM:z6 zs m):Rises (zs.map λz=>tF m z) (ltT zs):=by
 intro i j r r' e1 e2;obtain⟨z,hz,rfl⟩:=map_some e1;obtain⟨w,hw,rfl⟩:=map_some e2;unfold ltT;rw[dz hz,dz hw];have hzm:=Ez hz;have hwm:=Ez hw;have e3:z.cps.toList.length=z.length:=by simp[J0]
 have e4:w.cps.toList.length=w.length:=by simp[J0]
 have:=uN z.cps.toList w.cps.toList m (λc hc=>((hL z hzm).2 c hc).1) (λc hc=>((hL w hwm).2 c hc).1) (by rw[e3];exact hM.1 z hzm) (by rw[e4];exact hM.1 w hwm);rw[e3,e4]at this;exact this
def Rws(H:Hp)(l:Addr)(rss:List (List Nat))(w b:Nat):Prop:=(∃ps:List Addr,H l=some (.lst (ps.map Oi))/\RowsT H ps rss)/\zW rss w b/\rss.length<=60/\w<=200/\b<=64
inductive Kd
 | nu (ns:List Int)
 | pa (tb:List (Int×Nat))
 | te (zs:List Str)
noncomputable def Kd.name:Kd->Str
 | .nu _=>"number"
 | .pa _=>"part"
 | .te _=>"text"
noncomputable def Kd.len:Kd->Nat
 | .nu ns=>ns.length
 | .pa tb=>tb.length
 | .te zs=>zs.length
noncomputable def Kd.lt:Kd->Nat->Nat->Bool
 | .nu ns=>ltN ns
 | .pa tb=>ltP tb
 | .te zs=>ltT zs
noncomputable def Kd.ok:Kd->Prop
 | .nu ns=>ns.length<=60/\∀x∈ns,-(10 ^ 18)<x/\x<10 ^ 18
 | .pa tb=>tb.length<=60/\(∀z∈tb,1<=z.2/\z.2<=60)/\∀z∈tb,-(10 ^ 18)<z.1/\z.1<10 ^ 18
 | .te zs=>zs.length<=60/\∀z∈zs,Ltr 30 z
noncomputable def KAt(H:Hp):Kd->List V->Prop
 | .nu ns,vs=>vs=ns.map Og
 | .pa tb,vs=>∃qs:List Addr,vs=qs.map Oi/\jP H qs tb
 | .te zs,vs=>vs=zs.map Oh
theorem KAt.len{H:Hp}{k:Kd}{vs:List V}(h:KAt H k vs):vs.length=k.len:=by
 cases k with
 | nu ns=>cases h;exact Ea ..
 | pa tb=>obtain⟨qs,rfl,p⟩:=h;rw[Ea];exact p.1
 | te zs=>cases h;exact Ea ..
theorem Kd.ok.le{k:Kd}(h:k.ok):k.len<=60:=by cases k<;>exact h.1
noncomputable def dgN(n b m:Nat):List Nat:=(Ej m).map λj=>n / b ^ (m - 1 - j) % b
theorem xn(n b m:Nat):(dgN n b m).length=m:=by simp[dgN]
theorem qp(n b m:Nat):cR (dgN n b m)=dg n b m:=by
 unfold cR dgN dg;rw[FD];rfl
theorem z7(hb:2<=b):∀x∈dgN n b m,x<b:=λx hx=>by
 unfold dgN at hx;obtain⟨j,_,rfl⟩:=EC.mp hx;exact Ig _ ⋯
noncomputable def trN(m:Nat)(z:Str):List Nat:=z.cps.toList.map (λc=>c - 96)++Er (m - z.length) 0
theorem uV(h:Ltr 30 z):cR (trN m z)=tF m z:=by
 unfold cR trN tF;rw[Ef,FD,GD];congr 1;apply Im;intro c hc;have:=h.2 c hc;show((c - 96:Nat):Int)=(c:Int) - 96
 lia
theorem xo(h:z.length<=m):(trN m z).length=m:=by
 unfold trN;rw[En,Ea,E3];have e:z.cps.toList.length=z.length:=by simp[J0]
 lia
theorem z8(h:Ltr 30 z):∀x∈trN m z,x<27:=λx hx=>by
 unfold trN at hx;rcases ET.mp hx with hx|hx
 ·obtain⟨c,hc,rfl⟩:=EC.mp hx
  have:=h.2 c hc;lia
 ·have:=Jo hx
  lia
def Ct(ns:List Int)(b:Nat)(rss:List (List Nat))(w:Nat):Prop:=∃zs,Spelt ns b zs w/\rss=zs.map λz=>dgN z b w
noncomputable def Kd.rows(b:Nat)(rss:List (List Nat))(w by':Nat):Kd->Prop
 | .nu ns=>Ct ns b rss w/\by'=b
 | .pa tb=>Ct (bH tb) b rss w/\by'=b
 | .te zs=>(z6 zs w/\w<=30/\rss=zs.map (trN w))/\by'=27
theorem mT{H:Hp}(h:RowsAt H ps b m zs):RowsT H ps (zs.map λz=>dgN z b m):=by
 refine⟨by rw[Ea];exact h.1,λi p r e1 e2=>?_⟩;obtain⟨z,hz,rfl⟩:=map_some e2;rw[dJ,qp];exact h.2 i p z e1 hz
theorem qq{H:Hp}{zs:List Str}(h:TRows H ps zs m)(hL:∀z∈zs,Ltr 30 z):RowsT H ps (zs.map (trN m)):=by
 refine⟨by rw[Ea];exact h.1,λi p r e1 e2=>?_⟩;obtain⟨z,hz,rfl⟩:=map_some e2;rw[dJ,uV (hL z (Ez hz))];exact h.2 i p z e1 hz
theorem kl{ns:List Int}{w:Nat}(h:Ct ns b rss w)(hb:2<=b):zW rss w b/\rss.length=ns.length/\w<=200:=by
 obtain⟨zs,hS,rfl⟩:=h;refine⟨λr hr=>?_,by rw[Ea];exact hS.len,by have:=hS.few;lia⟩;obtain⟨z,_,rfl⟩:=EC.mp hr;exact⟨xn ..,z7 hb⟩
theorem Kd.rows.good{k:Kd}{w by':Nat}(h:k.rows b rss w by')(hk:k.ok)(hb:2<=b)(hb2:b<=64):zW rss w by'/\rss.length=k.len/\w<=200/\by'<=64:=by
 cases k with
 | nu ns=>obtain⟨h,rfl⟩:=h;obtain⟨a,c,d⟩:=kl h hb;exact⟨a,c,d,hb2⟩
 | pa tb=>obtain⟨h,rfl⟩:=h;obtain⟨a,c,d⟩:=kl h hb;exact⟨a,c.trans (bD tb),d,hb2⟩
 | te zs=>
  obtain⟨⟨hM,hm,rfl⟩,rfl⟩:=h;refine⟨λr hr=>?_,Ea ..,by lia,by decide⟩;obtain⟨z,hz,rfl⟩:=EC.mp hr;exact⟨xo (hM.1 z hz),z8 (hk.2 z hz)⟩
def z9(K:Ec):Sp:=λvs H Q _=>∃(k:Kd) (us:List V) (a:Addr) (b:Nat),vs=[.str k.name,.ref a,.int b]/\(H a=some (.lst us)\/H a=some (.tup us))/\KAt H k us/\k.ok/\2<=b/\b<=64/\
 ∀(t l:Addr) (ps:List Addr) (rss:List (List Nat)) (w by':Nat) H',Same H H'->H' t=some (.tup [.int by',.ref l])->H' l=some (.lst (ps.map Oi))->RowsT H' ps rss->k.rows b rss w by'->Q (.ref t) H'
theorem km{K:Ec}{H:Hp}{us:List V}(h:H a=some (.lst us)\/H a=some (.tup us)):SqL K H a us\/SqT K H a us:=h.elim (λh=>.inl (Oe h)) λh=>.inr (Of h)
theorem nY (T:Tx K mg t):FnOk P t.wd K mg base CX0 4 (t.f 36) (t.d 36) ["kind","keys","base"] (z9 K):=by
 refine okT (N:=["kind","keys","base"]) (T.fn 36 rfl) (λH Q hr nd h=>?_)
 ·obtain⟨k,us,a,b,rfl,ta,hA,hk,hb,hb2,q⟩:=h
  refine⟨_,(ae (a8 (av fz (qv 0) aB (aw _)) (ai (au (aU (ah (bN (v:=.int 27) rfl T.lY ⟨_,rfl⟩) (ah (aA (kj T) hr (T.fn 35 rfl) (ah (qv 1) aa)) aa))))) aG)
   (ae (a8 (av fz (qv 0) aB (aw _)) (ai (au (aU (ah (qv 2) (ah (aA (dU T) hr (T.fn 33 rfl) (ah (aA (fH T) hr (T.fn 32 rfl) (ah (qv 1) aa)) (ah (qv 2) aa))) aa))))) aG)
   (ai (au (aU (ah (qv 2) (ah (aA (dU T) hr (T.fn 33 rfl) (ah (qv 1) (ah (qv 2) aa))) aa))))))),?_⟩
  dsimp only[st0];cases k with
  | nu ns=>
   obtain rfl:us=ns.map Og:=hA;nofun;refine dQ (show ¬Oh (EU "number")=Oh (EU "text")by decide) ?_;nofun;refine dQ (show ¬Oh (EU "number")=Oh (EU "part")by decide) ?_;nofun;refine⟨a,ns,b,rfl,km ta,hb,hb2,⟨by have:=hk.1;lia,λx hx=>by have:=hk.2 x hx;lia⟩,λl ps zs m H' hl sm tl hR hS=>?_⟩;nofun;exact⟨ax (by simp),λt ht=>q t l ps _ m b _ (sm.new ht) af (by rw[ar (aj tl ht)];exact tl) (mT (hR.same ((Oj _).new ht))) ⟨⟨zs,hS,rfl⟩,rfl⟩⟩
  | pa tb=>
   obtain⟨qs,rfl,hP⟩:=hA;nofun;refine dQ (show ¬Oh (EU "part")=Oh (EU "text")by decide) ?_;nofun;refine jL rfl ?_;nofun;refine⟨a,qs,tb,rfl,by have:=hk.1;lia,hk.2.1,hk.2.2,ta.elim (λh=>.inl ⟨Oe h,hP⟩) (λh=>.inr ⟨Of h,hP⟩),λl0 hl0=>?_⟩;obtain⟨H0,e9,sm0,t0⟩:=nwR hl0 (.lst ((bH tb).map Og));rw[e9];nofun;refine⟨l0,bH tb,b,rfl,.inl (Oe t0),hb,hb2,⟨by rw[bD];have:=hk.1;lia,pA hk.2.1 hk.2.2⟩,λl ps zs m H' hl sm tl hR hS=>?_⟩;nofun;exact⟨ax (by simp),λt ht=>q t l ps _ m b _ ((sm0.trans sm).new ht) af (by rw[ar (aj tl ht)];exact tl) (mT (hR.same ((Oj _).new ht))) ⟨⟨zs,hS,rfl⟩,rfl⟩⟩
  | te zs=>
   obtain rfl:us=zs.map Oh:=hA;nofun;refine jL rfl ?_;nofun;refine⟨a,zs,rfl,km ta,by have:=hk.1;lia,hk.2,λl ps m H' hl sm tl hR hM hm=>?_⟩;nofun;exact⟨ax (by simp),λt ht=>q t l ps _ m 27 _ (sm.new ht) af (by rw[ar (aj tl ht)];exact tl) (qq (hR.same ((Oj _).new ht)) hk.2) ⟨⟨hM,hm,rfl⟩,rfl⟩⟩
def tG:Sp:=λvs H Q _=>∃(a:Addr) (cs:List Nat),vs=[.ref a]/\(H a=some (.lst (NV cs))/\True)/\cs.length<=64/\∀(l:Addr) H',H l=none->Same H H'->H' l=some (.lst (NV (rZ cs)))->Q (.ref l) H'
theorem kn (T:Tx K mg t):FnOk P t.wd K mg base CX0 1 (t.f 1) (t.d 1) ["counts"] tG:=by
 refine okT (N:=["counts","lesser","so_far","many"]) (T.fn 1 rfl) (λH Q hr nd h=>?_)
 ·obtain⟨a,cs,rfl,ta,hcl,k⟩:=h
  obtain⟨ta,_⟩:=ta
  ·refine⟨_,(ae (aD (i:=1) (aO aa))
   (ae (aD (i:=2) ag)
   (ae (bX EM rfl (aI (K:=K) (qv 0)) (ay (i:=3)) (ae (bC (bf (K:=K) (qv 1) (ah (qv 2) aa)))
   (ai (gh (i:=2) nd rfl (GM rfl) (qv 3) mi))))
   (ai (au (qv 1)))))),?_⟩
   dsimp only[st0];nofun;refine⟨ax (by simp),λl hl=>?_⟩;obtain⟨H1,e9,s1,(t1:H1 l=some (.lst (NV ((rZ cs).take 0))))⟩:=nwR hl (.lst []);rw[e9];nofun;refine⟨a,rfl,⟨_,Oe (s1 _ _ ta)⟩,cK (a:=a) (xs:=NV cs) (λi σ H'=>Same H H'/\H' l=some (.lst (NV ((rZ cs).take i)))/\∃v,σ=[some (Oi a),some (Oi l),some (Og ((cs.take i).sum:Nat)),v]) ⟨s1,t1,none,rfl⟩ (λi σ H' _ h=>Oe (h.1 _ _ ta)) ?_ ?_⟩
   ·rintro i x σ H2 hx ⟨s2,t2,v,rfl⟩
    obtain⟨o,rfl,ho,hom,hi⟩:=aF hx;nofun;refine⟨br t2,?_⟩;nofun;refine aW t2 (by rw[aC,EI,fM];exact aq ⋯) ?_;rw[bZ,<-pJ hi];have e:(((cs.take i).sum:Nat):Int)+(o:Int)=((cs.take (i+1)).sum:Nat):=by rw[Em,ho,F1];simp
    nofun;exact⟨s2.own hl,af,some (Og (o:Nat)),by rw[<-e];rfl⟩
   ·rintro σ H2 ⟨s2,t2,v,rfl⟩
    rw[Ee (by rw[aC,fM];exact Ed _)]at t2;nofun;exact k l H2 hl s2 t2
def Cu:Sp:=λvs H Q _=>∃(a:Addr) (os:List Nat) (b:Nat),vs=[.ref a,.int b]/\H a=some (.lst (NV os))/\(∀o∈os,o<b)/\os.length<=60/\b<=64/\∀(l:Addr) (ob:List Nat) H',H l=none->Same H H'->H' l=some (.lst (NV ob))->ByF os ob->Q (.ref l) H'
theorem getD_some{os:List Nat}{o:Nat}(h:os[i]? = some o):os.getD i 0=o:=by rw[Eb,h];rfl
theorem cN (T:Tx K mg t):FnOk P t.wd K mg base CX0 2 (t.f 6) (t.d 6) ["row","base"] Cu:=by
 refine okT (N:=["row","base","marks","order","place","figure"]) (T.fn 6 rfl) (λH Q hr nd h=>?_)
 ·obtain⟨a,os,b,rfl,ta,hob,hol,hb,k⟩:=h
  refine⟨_,(ae (aD (i:=2) (aA (kn T) hr (T.fn 1 rfl) (ah (aA (gD T) hr (T.fn 0 rfl) (ah (qv 0) (ah (qv 1) aa))) aa)))
   (ae (aD (i:=3) (az jN (aO (ah ag aa)) (ak (aV (K:=K)) (by rfl) T.bg aK (ah (qv 0) aa))))
   (ae (bX EM rfl (gj (K:=K) rfl T.cb (ah (qv 0) aa)) (bo (K:=K) (n:=2) rfl (ao (ay (i:=4)) (ao (ay (i:=5)) aQ))) (ae (ia (qv 4) (qv 3) (aJ (a9 (K:=K)) (qv 2) (qv 5)))
   (ai (mC (K:=K) (qv 2) (qv 5) ag))))
   (ai (au (qv 3)))))),?_⟩
  dsimp only[st0];nofun;refine⟨a,os,b,rfl,⟨ta,trivial⟩,hob,by lia,hb,λc H1 hc0 s1 tc=>?_⟩;nofun;refine⟨c,cnt os b,rfl,⟨tc,trivial⟩,by rw[bF];exact hb,λm H2 hm0 s2 tm=>?_⟩;have hmn:H m=none:=s1.free hm0;have s12:=s1.trans s2;nofun;refine⟨ax (by simp),λq0 hq0=>?_⟩;obtain⟨H3,e9,s3,e8,t0⟩:=nwD s12 hq0 (.lst [Og 0]);rw[e9];have tm3:=e8 _ _ tm;nofun;refine aE (Oe (s3 _ _ ta)) ?_;rw[aC];refine⟨q0,_,_,rfl,rfl,t0,by lia,by lia,ax (by simp;lia),λd hd=>?_⟩;have efl:(Er ((os.length:Nat):Int).toNat [Og 0]).flatten=NV (Er os.length 0):=by
   show(Er os.length [Og 0]).flatten=_
   rw[FS,NV,GD];rfl
  rw[efl];have hdn:H d=none:=s3.free hd;have hmd:m≠d:=aj tm3 hd;obtain⟨H4,e9,s4,e8,td⟩:=nwD s3 hd (.lst (NV (Er os.length 0)));rw[e9];have tm4:=e8 _ _ tm3;nofun;refine⟨a,rfl,⟨_,Oe (s4 _ _ ta)⟩,gm (n:=os.length) (λi σ H'=>Same H H'/\(∃ms ds:List Nat,H' m=some (.lst (NV ms))/\H' d=some (.lst (NV ds))/\ms.length=b/\ds.length=os.length/\(∀f,f<b->ms[f]? = some (bV os f+(os.take i).count f))/\∀j,j<i->ds[dR os j]? = some j)/\∃v w,σ=[some (Oi a),some (Og b),some (Oi m),some (Oi d),v,w]) ⟨s4,⟨_,_,tm4,td,by rw[fM,bF],by simp,λf hf=>?_,λj h=>absurd h (L1 _)⟩,none,none,rfl⟩ ?_ ?_ ?_ ?_⟩
  ·rw[fN (by rw[bF];exact hf),bP os b f ⋯];rfl
  ·rintro i σ H5 hi ⟨s5,_⟩
   exact⟨_,_,Oe (s5 _ _ ta),eN (o:=os[i]) (by simp[hi])⟩
  ·rintro σ H5 ⟨s5,_⟩
   exact⟨_,Oe (s5 _ _ ta),by rw[aC]⟩
  ·rintro i x σ H5 H6 hi ⟨s5,⟨ms,ds,tm5,td5,hml,hdl,hms,hds⟩,v,w,rfl⟩ ⟨q,x1,rfl,hq,rfl,hx1⟩
   have ei:os[i]? = some os[i]:=by simp[hi]
   have hx2:=hx1 _ (Oe (s5 _ _ ta));rw[eN ei]at hx2;obtain rfl:=EE hx2;have hfb:=hob os[i] (Es hi);have eg:=getD_some ei;have esp:dR os i=bV os os[i]+(os.take i).count os[i]:=by unfold dR;rw[eg]
   have hsl:=lz hi;have hcs:=cB hi;rw[eg]at hcs;generalize os[i]=f at *;refine aY af ?_;dsimp only[E4];obtain⟨H6,e9,s6,e8,_⟩:=nwD s5 hq (.tup [Og (i:Nat),Og (f:Nat)]);rw[e9];have tm6:=e8 _ _ tm5;have td6:=e8 _ _ td5;nofun;refine bz (Oe tm6) (iW rfl (hms f hfb)) ?_;rw[<-esp];nofun;refine hX td6 (jR rfl (by rw[aC,hdl];exact hsl)) ?_;rw[mB];obtain⟨H7,e9,s7,td7,e8⟩:=owS s6 hdn (.lst (NV (ds.set (dR os i) i)));rw[e9];have tm7:=e8 _ _ hmd tm6;nofun;refine⟨m,_,_,_,rfl,rfl,Oe tm7,by lia,eN (hms f hfb),?_⟩;nofun;refine⟨_,_,rfl,rfl,?_⟩;refine hX tm7 (jR rfl (by rw[aC,hml];exact hfb)) ?_;refine⟨s7.own hmn,⟨ms.set f (bV os f+(os.take i).count f+1),ds.set (dR os i) i,?_,by rw[ar (E2 hmd)];exact td7,by simpa using hml,by simpa using hdl,λg hg=>?_,λj hj=>?_⟩,_,_,rfl⟩
   ·rw[af]
    show some (HO.lst ((NV ms).set f (Og ((bV os f+(os.take i).count f+1:Nat):Int))))=_
    rw[mB]
   ·rw[Hn]
    by_cases e:f=g
    ·subst e
     rw[if_pos rfl,if_pos ⋯,hcs];rfl
    ·rw[if_neg e,hms g hg,Em,ei,IW]
     have:Nw g [f]=0:=Ks.mpr (by simp;exact λz=>e z.symm);simp only[Mt,this,M3]
   ·rw[Hn]
    by_cases e:dR os i=dR os j
    ·have hij:=mD hi ⋯ e
     rw[if_pos e,if_pos ⋯,hij]
    ·rw[if_neg e]
     have:j≠i:=λz=>e (by rw[z])
     exact hds j ⋯
  ·rintro σ H5 ⟨s5,⟨ms,ds,tm5,td5,hml,hdl,hms,hds⟩,v,w,rfl⟩
   nofun;exact k d ds H5 hdn s5 td5 ⟨hdl,hds⟩
def OrdR(rss:List (List Nat))(os:List Nat):Prop:=os.Perm (Ej rss.length)/\os.Pairwise (Rk rss 0)
def StepsL(H:Hp)(st:Addr)(qs:List Addr):Prop:=∀q∈qs,∃(c:Int) (l:Addr) (ns:List Nat),H q=some (.tup [.int c,.ref l])/\H l=some (.lst (NV ns))/\l≠st
theorem StepsL.same{H:Hp}{st:Addr}(h:StepsL H st qs)(s:Same H H1):StepsL H1 st qs:=λq hq=>by
 obtain⟨c,l,ns,e1,e2,e3⟩:=h q hq;exact⟨c,l,ns,s _ _ e1,s _ _ e2,e3⟩
theorem StepsL.own{H:Hp}{st:Addr}(h:StepsL H st qs)(hx:H st=some (.lst xs)):StepsL (upd H st (.lst ys)) st qs:=λq hq=>by
 obtain⟨c,l,ns,e1,e2,e3⟩:=h q hq;exact⟨c,l,ns,by rw[ar (qV e1 hx (by intro c;cases c))];exact e1,by rw[ar e3];exact e2,e3⟩
theorem StepsL.snoc{H:Hp}{st:Addr}{c:Int}{ns:List Nat}(h:StepsL H st qs)(e1:H q=some (.tup [.int c,.ref l]))(e2:H l=some (.lst (NV ns)))(e3:l≠st):StepsL H st (qs++[q]):=λp hp=>by
 rcases ET.mp hp with g|g
 ·exact h p g
 ·rw[EG.mp g];exact⟨c,l,ns,e1,e2,e3⟩
def xp:Sp:=λvs H Q _=>∃(a:Addr) (rss:List (List Nat)) (w b:Nat),vs=[.ref a,.int b]/\Rws H a rss w b/\
 ∀(t o st:Addr) (qs:List Addr) (os:List Nat) H',H' t=some (.tup [.ref o,.ref st])->H' o=some (.lst (NV os))->OrdR rss os->H' st=some (.lst (qs.map Oi))->StepsL H' st qs->qs.length<=200->H t=none->H o=none->Same H H'->Q (.ref t) H'
theorem ko (T:Tx K mg t):FnOk P t.wd K mg base CX0 3 (t.f 37) (t.d 37) ["rows","base"] xp:=by
 refine okT (N:=["rows","base","order","steps","column","row"]) (T.fn 37 rfl) (λH Q hr nd h=>?_)
 ·obtain⟨a,rss,w,b,rfl,⟨⟨ps,ta,hR⟩,hG,hn,hw,hb⟩,k⟩:=h
  have hwl:∀r∈rss,r.length=w:=λr hr=>(hG r hr).1
  have hpl:ps.length=rss.length:=hR.1;have hcols:∀p,ps[0]? = some p->∃zs,(H p=some (.lst zs)\/H p=some (.tup zs))/\zs.length=w:=λp hp=>by
   have h0:0<rss.length:=by rw[<-hpl];exact bq hp
   have hl:=(hG rss[0] (Es h0)).1;exact⟨_,.inr (hR.2 0 p _ hp (D9 h0)),by rw[aC];exact hl⟩
  have eM:=pH rss w b;have hM:(cX rss w b).length<=w:=by rw[eM];split<;>lia
  have hMr:∀r∈rss,r.length<=(cX rss w b).length:=λr hr=>by rw[eM,if_neg (λz=>by rw[z]at hr;cases hr),hwl r hr];exact Ed _
  refine⟨_,(ae (aD (i:=2) (iV rfl rfl T.dD rfl T.cf (ah (ak (aV (K:=K)) (by rfl) T.bg aK (ah (qv 0) aa)) aa)))
   (ae (aD (i:=3) (aO aa))
   (ae (bX EM rfl (jU rfl T.cf (ah (az dn (aA (dv T) hr (T.fn 2 rfl) (ah (qv 0) aa)) ag) (ah (lj lq ag) (ah (lj lq ag) aa)))) (ay (i:=4)) (ae (iT (i:=5) (N:=["place","rows","column"]) (tgs:=["place"]) (frs:=["rows","column"]) (ix:=[0,4])  nd rfl (GM rfl) ⟨rfl,by decide +kernel,rfl,by decide +kernel,rfl,rfl,⟨⟨rfl,rfl,_,rfl,rfl⟩,⟨rfl,rfl,_,rfl,rfl⟩,Ek⟩,⟨rfl,rfl,Ek⟩,rfl⟩ rfl (aI (K:=K) (qv 2)) (λ_ _ _ _=>(ay (i:=0))) (λ_ _ _ _=>(aJ (fE (K:=K)) (aJ (a9 (K:=K)) (qv 1) (qv 0)) (qv 2))))
   (ai (a8 (ck (aA (fB T) hr (T.fn 5 rfl) (ah (aA (gD T) hr (T.fn 0 rfl) (ah (qv 5) (ah (qv 1) aa))) aa))) (ae (aD (i:=2) (aS (N:=["at","order"]) (tgs:=["at"]) (frs:=["order"]) (ix:=[2]) ⟨rfl,by decide +kernel,rfl,by decide +kernel,rfl,rfl,⟨⟨rfl,rfl,_,rfl,rfl⟩,Ek⟩,⟨rfl,Ek⟩,rfl⟩ rfl (aI (K:=K) (aA (cN T) hr (T.fn 6 rfl) (ah (qv 5) (ah (qv 1) aa)))) (λ_ _ _ _=>(ay (i:=0))) (λ_ _ _ _=>(aJ (a9 (K:=K)) (qv 1) (qv 0)))))
   (ai (bC (bf (K:=K) (qv 3) (ah (aU (ah (qv 4) (ah (aM (wm (K:=K)) (by rfl) T.dD gB (ah (qv 2) aa)) aa))) aa))))) aG))))
   (ai (au (aU (ah (qv 2) (ah (qv 3) aa)))))))),?_⟩
  dsimp only[st0];nofun;refine aE (Oe ta) ?_;rw[Ea,hpl];nofun;refine⟨rss.length,rfl,by lia,λo0 ho0=>?_⟩;rw[iX];have er:((Ej rss.length).map λi=>0+i)=Ej rss.length:=by simp
  rw[er];obtain⟨H1,e9,s1,to0⟩:=nwR ho0 (.lst (NV (Ej rss.length)));rw[e9];nofun;refine⟨ax (by simp),λst hst=>?_⟩;have hstn:H st=none:=s1.free hst;have h0s:o0≠st:=aj to0 hst;obtain⟨H2,e9,s2,e8,(tst:H2 st=some (.lst (([]:List Addr).map Oi)))⟩:=nwD s1 hst (.lst []);rw[e9];have to2:=e8 _ _ to0;nofun;refine⟨a,ps,rss,w,rfl,s2 _ _ ta,hpl,(λp hp=>by obtain⟨zs,h,e⟩:=hcols p hp;exact⟨zs,h.elim (λh=>.inl (s2 _ _ h)) (λh=>.inr (s2 _ _ h)),e⟩),?_⟩;rw[<-eM];nofun;refine⟨_,rfl,by lia,gm (n:=(cX rss w b).length) (λi σ H'=>Same H H'/\(∃(o:Addr) (os:List Nat) (qs:List Addr),H' o=some (.lst (NV os))/\os.Perm (Ej rss.length)/\os.Pairwise (Rk rss ((cX rss w b).length - i))/\H o=none/\o≠st/\H' st=some (.lst (qs.map Oi))/\qs.length<=i/\StepsL H' st qs/\∃v w,σ=[some (Oi a),some (Og b),some (Oi o),some (Oi st),v,w])) ⟨s2,o0,_,[],to2,GN _,j0 hMr,ho0,h0s,tst,Ed _,(λq h=>nomatch h),_,_,rfl⟩ (λi σ H' hi _=>hi) (λσ H' _=>Ed _) ?_ ?_⟩
  ·rintro i x σ H3o H3 hi ⟨s3,o,os,qs,to3,hP,hW,hon,hos,ts3,hsl,hS,v,w',rfl⟩ ⟨rfl,rfl⟩
   have hosl:os.length=rss.length:=by have:=hP.length_eq;simpa using this
   have hcm:(cX rss w b).length - 1 - i<(cX rss w b).length:=by lia
   have ec1:(cX rss w b).length - i=(cX rss w b).length - 1 - i+1:=by lia
   have ec2:(cX rss w b).length - (i+1)=(cX rss w b).length - 1 - i:=by lia
   rw[ec1]at hW;rw[ec2];generalize (cX rss w b).length - 1 - i=c at hcm hW;have hcw:c<w:=by lia
   have hrow:=iY (os:=os) (xs:=cu rss c) (by rw[qk];exact hP);nofun;refine⟨o,rfl,⟨_,Oe to3⟩,aN (a:=o) (vs:=NV os) (λi ys σ H'=>H'=H3/\i<=os.length/\ys=NV ((os.map λp=>(cu rss c).getD p 0).take i)/\∃v,σ=[v,some (Oi a),some (Og c)]) (by rw[aC];exact aq ⋯) (λi ys σ H' h=>by rw[h.2.2.1,aC,EI,Ea];lia) (λi ys σ H' h=>by rw[h.1];exact Oe to3) ⟨rfl,Eo _,rfl,none,rfl⟩ ?_ ?_⟩
   ·rintro j ys σ H' x hx ⟨rfl,_,rfl,v,rfl⟩
    have hil:=bq hx;obtain⟨q,rfl,hq,hqm,hj⟩:=aF hx;have hqn:q<rss.length:=by simpa using hP.mem_iff.mp hqm
    have hqp:q<ps.length:=by lia
    have er:rss[q]? = some rss[q]:=by simp[hqn]
    obtain⟨g1,g2⟩:=qj hG er hcw;nofun;refine bz (Oe (s3 _ _ ta)) (v:=Oi ps[q]) (aT (by rw[Eh];simp[hqp])) ?_;nofun;refine o9 (Of (s3 _ _ (hR.2 q ps[q] _ (by simp[hqp]) er))) (iW rfl g1) ?_;refine Om hil ⟨rfl,hj,?_,_,rfl⟩;rw[bZ,Em,Eh,hq];show _=NV (_++[(cu rss c).getD q 0])
    rw[getD_some g2]
   rintro ys σ H' ⟨rfl,_,rfl,v,rfl⟩ z hz;rw[Ee (by rw[aC,Ea];exact Ed _)];have hrl:(os.map λp=>(cu rss c).getD p 0).length=rss.length:=by rw[Ea];exact hosl
   have hrb:∀x∈os.map λp=>(cu rss c).getD p 0,x<b:=λx hx=>mS hG hcw x (hrow.mem_iff.mp hx)
   have ecn:cnt (os.map λp=>(cu rss c).getD p 0) b=cnt (cu rss c) b:=r9 hrow;have hstep:∀ob,ByF (os.map λp=>(cu rss c).getD p 0) ob->(cmp os ob).Pairwise (Rk rss c):=λob hB=>se hwl hcw hP hW hB
   generalize (os.map λp=>(cu rss c).getD p 0)=row at hrl hrb ecn hstep;obtain⟨H4,e9,s34,tz⟩:=nwR hz (.lst (NV row));rw[e9];nofun;refine⟨z,row,b,rfl,⟨tz,trivial⟩,hrb,by lia,hb,λcc H5 hcc s5 tcc=>?_⟩;nofun;refine⟨cc,cnt row b,rfl,.inl tcc,by rw[bF];exact hb,λH6 s6=>?_⟩;have s36:=s34.trans (s5.trans s6);have tz6:=s6 _ _ (s5 _ _ tz);rw[ecn];nofun;by_cases hp:eO (cnt (cu rss c) b)=true
   ·rw[if_pos hp]
    nofun;refine⟨z,row,b,rfl,tz6,hrb,by lia,hb,λd ob H7 hd0 s7 td hB=>?_⟩;have hO:=hB.ord;rw[hrl]at hO;have s37:=s36.trans s7;have to7:=s37 _ _ to3;nofun;refine⟨d,rfl,⟨_,Oe td⟩,aN (a:=d) (vs:=NV ob) (λi ys σ H'=>H'=H7/\i<=ob.length/\ys=NV ((cmp os ob).take i)/\∃v,σ=[v,some (Oi o)]) (by rw[aC,hO.len];exact aq ⋯) (λi ys σ H' h=>by rw[h.2.2.1,aC,EI,ff];lia) (λi ys σ H' h=>by rw[h.1];exact Oe td) ⟨rfl,Eo _,rfl,none,rfl⟩ ?_ ?_⟩
    ·rintro j ys σ H9 x hx ⟨rfl,_,rfl,v,rfl⟩
     have hil:=bq hx;obtain⟨q,rfl,hq,hqm,hj⟩:=aF hx;have hqn:=hO.lt q hqm;have hqo:q<os.length:=by lia
     nofun;refine bz (Oe to7) (iW rfl (o:=os[q]) (by simp[hqo])) ?_;refine Om hil ⟨rfl,hj,?_,_,rfl⟩;rw[bZ,Em,lx hq (r:=os[q]) (by simp[hqo])];rfl
    rintro ys σ H9 ⟨rfl,_,rfl,v,rfl⟩ y hy;rw[Ee (by rw[aC,ff];exact Ed _)];have hP2:(cmp os ob).Perm (Ej rss.length):=by
     have h1:=iY (os:=ob) (xs:=os) (by rw[hosl];exact hO.perm);exact h1.trans hP
    have hyn:H y=none:=s3.free (s37.free hy);have hys:y≠st:=λe=>by have:=s37 _ _ ts3;rw[<-e,hy]at this;cases this
    obtain⟨H8,e9,s8,ty⟩:=nwR hy (.lst (NV (cmp os ob)));rw[e9];have s38:=s37.trans s8;have ts8:=s38 _ _ ts3;nofun;refine⟨br ts8,?_⟩;nofun;refine pd (.inl (Oe ty)) λl2 hl2=>?_
    obtain⟨HA,e9,sA,tl2⟩:=nwR hl2 (.lst (NV (cmp os ob)));rw[e9];have hl2s:l2≠st:=λe=>by rw[e,ts8]at hl2;cases hl2
    nofun;refine⟨ax (by simp),λtq htq=>?_⟩;obtain⟨HB,e9,sB,ttq⟩:=nwR htq (.tup [Og (c:Nat),Oi l2]);rw[e9];have s3B:=s38.trans (sA.trans sB);have tsB:=s3B _ _ ts3;nofun;refine aW tsB (by rw[Ea];exact aq ⋯) ?_;refine⟨(s3.trans s3B).own hstn,y,cmp os ob,qs++[tq],by rw[ar hys];exact sB _ _ (sA _ _ ty),hP2,hstep ob hB,hyn,hys,by rw[af,Ef];rfl,by rw[En];exact Gw hsl,((hS.same s3B).snoc ttq (sB _ _ tl2) hl2s).own tsB,_,_,rfl⟩
   ·rw[if_neg hp]
    nofun;exact⟨s3.trans s36,o,os,qs,s36 _ _ to3,hP,sf hwl (mS hG hcw) hcw hP hW hp,hon,hos,s36 _ _ ts3,by lia,hS.same s36,_,_,rfl⟩
  ·rintro σ H3 ⟨s3,o,os,qs,to3,hP,hW,hon,hos,ts3,hsl,hS,v,w',rfl⟩
   rw[Gy]at hW;nofun;refine⟨ax (by simp),λt ht=>?_⟩;exact k t o st qs os _ af (by rw[ar (aj to3 ht)];exact to3) ⟨hP,hW⟩ (by rw[ar (aj ts3 ht)];exact ts3) (hS.same ((Oj H3).new ht)) ⋯ (s3.free ht) hon (s3.new ht)
def xq:Sp:=λvs H Q _=>∃(f c:Nat) (a:Addr) (cs:List Nat),vs=[.int f,.ref a,.int c]/\H a=some (.lst (NV cs))/\cs.length<=64/\∀(l:Addr) (qs:List Addr) H',H l=none->Same H H'->H' l=some (.lst (qs.map Oi))->TrAt H' qs (bA f cs c)->Q (.ref l) H'
theorem lL{f:Nat}(h:i<cs.length):(bA f cs c).take (i+1)=(bA f cs c).take i++[(f+(cs.take i).sum,f+(cs.take i).sum+cs.getD i 0,c)]:=by
 unfold bA;rw[Em,Eh,FH h];rfl
theorem iB(f c:Nat)(cs:List Nat):(bA f cs c).length=cs.length:=by unfold bA;simp
theorem lM (T:Tx K mg t):FnOk P t.wd K mg base CX0 2 (t.f 7) (t.d 7) ["first","often","column"] xq:=by
 refine okT (N:=["first","often","column"]) (T.fn 7 rfl) (λH Q hr nd h=>?_)
 ·obtain⟨f,c,a,cs,rfl,ta,hcl,k⟩:=h
  refine⟨_,(ai (au (aS (N:=["begin","many","first","column"]) (tgs:=["begin","many"]) (frs:=["first","column"]) (ix:=[0,2]) ⟨rfl,by decide +kernel,rfl,by decide +kernel,rfl,rfl,⟨⟨rfl,rfl,_,rfl,rfl⟩,⟨rfl,rfl,_,rfl,rfl⟩,Ek⟩,⟨rfl,rfl,Ek⟩,rfl⟩ rfl (zl (K:=K) rfl T.ue (ah (aA (kn T) hr (T.fn 1 rfl) (ah (qv 1) aa)) (ah (qv 1) aa))) (λ_ _ _ _=>(bo (K:=K) (n:=2) rfl (ao (ay (i:=0)) (ao (ay (i:=1)) aQ)))) (λ_ _ _ _=>(aU (ah (az cW (qv 2) (qv 0)) (ah (az cW (az cW (qv 2) (qv 0)) (qv 1)) (ah (qv 3) aa)))))))),?_⟩;dsimp only[st0];nofun;refine⟨a,cs,rfl,⟨ta,trivial⟩,hcl,λd H1 hd s1 td=>?_⟩;have ta1:=s1 _ _ ta;nofun;refine⟨d,a,rfl,⟨_,Oe td⟩,⟨_,Oe ta1⟩,iU (n:=cs.length) (λi ys σ H'=>Same H1 H'/\(∃qs:List Addr,ys=qs.map Oi/\qs.length=i/\TrAt H' qs ((bA f cs c).take i))/\∃v w,σ=[v,w,some (Og f),some (Og c)]) (aq ⋯) (λi ys σ H' h=>by obtain⟨_,⟨qs,rfl,e,_⟩,_⟩:=h;rw[Ea,e]) ⟨Oj _,⟨[],rfl,rfl,rfl,λi q s h=>by simp at h⟩,none,none,rfl⟩ ?_ ?_ ?_ ?_⟩
  ·rintro i ys σ H2 hi ⟨s2,_⟩
   exact⟨_,_,Og ((cs.take i).sum:Nat),Og (cs[i]:Nat),Oe (s2 _ _ td),Oe (s2 _ _ ta1),eN (fN hi),eN (by simp[hi])⟩
  ·rintro ys σ H2 ⟨s2,_⟩
   exact⟨_,_,Oe (s2 _ _ td),Oe (s2 _ _ ta1),.inl (by rw[aC,fM];exact Ed _)⟩
  ·rintro i x ys σ H2 H3 hi ⟨s2,⟨qs,rfl,hql,hQ⟩,v,w,rfl⟩ ⟨p,x1,y1,rfl,hp,rfl,hx1,hy1⟩
   have hx2:=hx1 _ (Oe (s2 _ _ td));have hy2:=hy1 _ (Oe (s2 _ _ ta1));rw[eN (fN hi)]at hx2;rw[eN (o:=cs[i]) (by simp[hi])]at hy2;obtain rfl:=EE hx2;obtain rfl:=EE hy2;refine aY af ?_;dsimp only[E4];have s3:=s2.new (o:=.tup [Og ((cs.take i).sum:Nat),Og (cs[i]:Nat)]) hp;have Q3:=hQ.same ((Oj H2).new (o:=.tup [Og ((cs.take i).sum:Nat),Og (cs[i]:Nat)]) hp);generalize upd H2 p (.tup [Og ((cs.take i).sum:Nat),Og (cs[i]:Nat)])=H3 at s3 Q3;have e1:(f:Int)+((cs.take i).sum:Nat)=((f+(cs.take i).sum:Nat):Int):=by lia
   have eg:cs.getD i 0=cs[i]:=by rw[Eb,D9 hi];rfl
   have e2:((f+(cs.take i).sum:Nat):Int)+(cs[i]:Nat)=((f+(cs.take i).sum+cs[i]:Nat):Int):=by lia
   nofun;rw[e1,e2];refine⟨ax (by simp),λt ht=>?_⟩;refine Om hi ⟨s3.new ht,⟨qs++[t],by rw[Ef];rfl,by simp[hql],?_⟩,_,_,rfl⟩;rw[lL hi,eg];exact(Q3.same ((Oj _).new ht)).snoc af
  ·rintro ys σ H2 ⟨s2,⟨qs,rfl,hql,hQ⟩,v,w,rfl⟩ l hl
   rw[Ee (by rw[iB];exact Ed _)]at hQ;exact k l qs _ (s1.free (s2.free hl)) ((s1.trans s2).new hl) af (hQ.same ((Oj H2).new hl))
def tH:Sp:=λvs H Q _=>∃(a:Addr) (rss:List (List Nat)) (w b:Nat),vs=[.ref a,.int b]/\Rws H a rss w b/\
 ∀(t o st:Addr) (zs:List Addr) (os:List Nat) (sts:List dj) H',sts.length<=60->H' t=some (.tup [.ref o,.ref st])->H' o=some (.lst (NV os))->OrdR rss os->H' st=some (.lst (zs.map Oi))->TrAt H' zs sts->H t=none->H o=none->Same H H'->Q (.ref t) H'
theorem jf (T:Tx K mg t):FnOk P t.wd K mg base CX0 3 (t.f 8) (t.d 8) ["rows","base"] tH:=by
 refine okT (N:=["rows","base","order","steps","columns","waiting","first","last","column","stretch","row","often"]) (T.fn 8 rfl) (λH Q hr nd h=>?_)
 ·obtain⟨a,rss,w,b,rfl,⟨⟨ps,hta,hR⟩,hG,hn,hw,hb⟩,k⟩:=h
  have hpl:ps.length=rss.length:=hR.1;have hwl:∀r∈rss,r.length=w:=λr hr=>(hG r hr).1
  have ta:=hta
  ·refine⟨_,(ae (aD (i:=2) (iV rfl rfl T.dD rfl T.cf (ah (ak (aV (K:=K)) (by rfl) T.bg aK (ah (qv 0) aa)) aa)))
   (ae (aD (i:=3) (aO aa))
   (ae (aD (i:=4) (aA (dv T) hr (T.fn 2 rfl) (ah (qv 0) aa)))
   (ae (aD (i:=5) (aO (ah (aU (ah ag (ah (ak (aV (K:=K)) (by rfl) T.bg aK (ah (qv 0) aa)) (ah ag aa)))) aa)))
   (ae (c9 EM (eH (K:=K) (qv 5)) (ae (cv (pE (K:=K) (qv 5)) (bo (K:=K) (n:=3) rfl (ao (ay (i:=6)) (ao (ay (i:=7)) (ao (ay (i:=8)) aQ)))))
   (ae (a8 (Ol (c7 (av pe (az dn (qv 7) (qv 6)) ag (aw _)) (di (av fz (qv 8) (qv 4) (aw _))))) (ai wB) aG)
   (ae (aD (i:=9) (bL (gT (K:=K)) (qv 2) (bE (qv 6)) (bE (qv 7))))
   (ae (iT (i:=10) (N:=["place","rows","column"]) (tgs:=["place"]) (frs:=["rows","column"]) (ix:=[0,8])  nd rfl (GM rfl) ⟨rfl,by decide +kernel,rfl,by decide +kernel,rfl,rfl,⟨⟨rfl,rfl,_,rfl,rfl⟩,⟨rfl,rfl,_,rfl,rfl⟩,Ek⟩,⟨rfl,rfl,Ek⟩,rfl⟩ rfl (aI (K:=K) (qv 9)) (λ_ _ _ _=>(ay (i:=0))) (λ_ _ _ _=>(aJ (fE (K:=K)) (aJ (a9 (K:=K)) (qv 1) (qv 0)) (qv 2))))
   (ae (aD (i:=11) (aA (gD T) hr (T.fn 0 rfl) (ah (qv 10) (ah (qv 1) aa))))
   (ae (a8 (ck (aA (fB T) hr (T.fn 5 rfl) (ah (qv 11) aa))) (ae (uG (aS (N:=["at","stretch"]) (tgs:=["at"]) (frs:=["stretch"]) (ix:=[9]) ⟨rfl,by decide +kernel,rfl,by decide +kernel,rfl,rfl,⟨⟨rfl,rfl,_,rfl,rfl⟩,Ek⟩,⟨rfl,Ek⟩,rfl⟩ rfl (aI (K:=K) (aA (cN T) hr (T.fn 6 rfl) (ah (qv 10) (ah (qv 1) aa)))) (λ_ _ _ _=>(ay (i:=0))) (λ_ _ _ _=>(aJ (a9 (K:=K)) (qv 1) (qv 0)))) (qv 2) (qv 6) (qv 7))
   (ai (bC (bf (K:=K) (qv 3) (ah (aU (ah (qv 6) (ah (qv 7) (ah (qv 8) aa)))) aa))))) aG)
   (ai (bC (jT (K:=K) (qv 5) (ah (uC (K:=K) (aA (lM T) hr (T.fn 7 rfl) (ah (qv 6) (ah (qv 11) (ah (az cW (qv 8) ag) aa))))) aa)))))))))))
   (ai (au (aU (ah (qv 2) (ah (qv 3) aa)))))))))),?_⟩
   dsimp only[st0];nofun;refine aE (Oe ta) ?_;rw[Ea,hpl];nofun;refine⟨rss.length,rfl,by lia,λo ho=>?_⟩;rw[iX];have er:((Ej rss.length).map λi=>0+i)=Ej rss.length:=by simp
   rw[er];obtain⟨H1,e9,s1,to0⟩:=nwR ho (.lst (NV (Ej rss.length)));rw[e9];nofun;refine⟨ax (by simp),λst hst=>?_⟩;have hstn:H st=none:=s1.free hst;have h0s:o≠st:=aj to0 hst;obtain⟨H2,e9,s2,e8,tst⟩:=nwD s1 hst (.lst []);rw[e9];have to2:=e8 _ _ to0;nofun;refine⟨a,ps,rss,w,rfl,s2 _ _ ta,hpl,(λp hp=>by
    have h0:0<rss.length:=by rw[<-hpl];exact bq hp
    exact⟨_,.inr (s2 _ _ (hR.2 0 p _ hp (D9 h0))),by rw[aC];exact(hG rss[0] (Es h0)).1⟩),?_⟩
   have hC:∀r∈rss,r.length=(if rss=[]then 0 else w):=λr hr=>by rw[if_neg (λz=>by rw[z]at hr;cases hr)];exact hwl r hr
   have hCw:(if rss=[]then 0 else w)<=w:=by split<;>lia
   generalize (if rss=[]then 0 else w)=C at hC hCw k;nofun;refine aE (Oe (s2 _ _ ta)) ?_;rw[Ea,hpl];nofun;refine⟨ax (by simp),λt0 ht0=>?_⟩;obtain⟨H3,e9,s3,e8,(tt0:H3 t0=some (.tup [Og ((0:Nat):Int),Og (rss.length:Nat),Og ((0:Nat):Int)]))⟩:=nwD s2 ht0 (.tup [Og 0,Og (rss.length:Nat),Og 0]);rw[e9];have to3:=e8 _ _ to2;have ts3:=e8 _ _ tst;nofun;refine⟨ax (by simp),λwl hwl0=>?_⟩;have hwn:H wl=none:=s3.free hwl0;have how:o≠wl:=aj to3 hwl0;have hsw:st≠wl:=aj ts3 hwl0;have s4:=s3.new (o:=.lst [Oi t0]) hwl0;have to4:(upd H3 wl (.lst [Oi t0])) o=some (.lst (NV (Ej rss.length))):=by rw[ar how];exact to3
   have ts4:(upd H3 wl (.lst [Oi t0])) st=some (.lst []):=by rw[ar hsw];exact ts3
   have tw4:(upd H3 wl (.lst [Oi t0])) wl=some (.lst ([t0].map Oi)):=af;have T4:TrAt (upd H3 wl (.lst [Oi t0])) [t0] [(0,rss.length,0)]:=by
    refine⟨rfl,λi q s a b=>?_⟩
    match i,a,b with
    | 0,a,b=>cases a;cases b;rw[ar (aj tt0 hwl0)];exact tt0
    | i+1,a,_=>simp at a
   generalize upd H3 wl (.lst [Oi t0])=H4 at s4 to4 ts4 tw4 T4;nofun;refine⟨λm σ H'=>∃(ws:List dj) (qs:List Addr) (os:List Nat) (zs:List Addr),m=i3 b C ws/\Same H H'/\H' o=some (.lst (NV os))/\H' st=some (.lst (zs.map Oi))/\H' wl=some (.lst (qs.map Oi))/\TrAt H' qs ws/\Msd rss C os ws/\Low b ws/\zs.length+eR ws<=60/\(∃sts,TrAt H' zs sts)/\∃v6 v7 v8 v9 va vb,σ=[some (Oi a),some (Og b),some (Oi o),some (Oi st),some (Og C),some (Oi wl),v6,v7,v8,v9,va,vb],⟨_,_,_,_,[],rfl,s4,to4,ts4,tw4,T4,Msd.start rss C,(λi s e=>?_),?_,⟨[],rfl,λi q s h=>by simp at h⟩,_,_,_,_,_,_,rfl⟩,?_⟩
   ·match i,e with
    | 0,_=>exact Eo _
    | i+1,e=>simp at e
   ·show 0+(rss.length - 0 - 1+0)<=60
    lia
   rintro m σ H5 ⟨ws,qs,os,zs,rfl,s5,to5,ts5,tw5,T5,M5,L5,ph5,⟨sts,TZ5⟩,v6,v7,v8,v9,va,vb,rfl⟩;nofun;refine⟨_,AN (Oe tw5),?_⟩;by_cases hq0:qs=[]
   ·have hw0:ws=[]:=FA.mp (by rw[<-T5.1,hq0];rfl)
    subst hq0 hw0;rw[if_neg (by simp)];nofun;refine⟨ax (by simp),λt ht=>?_⟩;exact k t o st zs os sts _ (by rw[<-TZ5.1];lia) af (by rw[ar (aj to5 ht)];exact to5) ⟨M5.perm,M5.done⟩ (by rw[ar (aj ts5 ht)];exact ts5) (TZ5.same ((Oj H5).new ht)) (s5.free ht) ho (s5.new ht)
   obtain⟨rs,q,vs,⟨f,l,c⟩,rfl,rfl,Tr,tq⟩:=T5.last hq0;have tq:H5 q=some (.tup [.int (f:Nat),.int (l:Nat),.int (c:Nat)]):=tq;have hne:(!((rs++[q]).map Oi).isEmpty)=true:=by simp
   rw[if_pos hne];refine⟨_,λ_ _ z=>z,?_⟩;nofun;refine⟨br tw5,?_⟩;rw[Ef]at tw5;refine pM tw5 ?_;have s6:=s5.own (o:=.lst (rs.map Oi)) hwn;have to6:(upd H5 wl (.lst (rs.map Oi))) o=some (.lst (NV os)):=by rw[ar how];exact to5
   have ts6:(upd H5 wl (.lst (rs.map Oi))) st=some (.lst (zs.map Oi)):=by rw[ar hsw];exact ts5
   have TZ6:TrAt (upd H5 wl (.lst (rs.map Oi))) zs sts:=TZ5.own tw5;have tw6:(upd H5 wl (.lst (rs.map Oi))) wl=some (.lst (rs.map Oi)):=af;have T6:TrAt (upd H5 wl (.lst (rs.map Oi))) rs vs:=Tr.own tw5;have tq6:(upd H5 wl (.lst (rs.map Oi))) q=some (.tup [.int (f:Nat),.int (l:Nat),.int (c:Nat)]):=by rw[ar (qV tq tw5 (by intro c;cases c))];exact tq
   generalize upd H5 wl (.lst (rs.map Oi))=H6 at s6 to6 ts6 tw6 T6 tq6 TZ6;refine df tq6 ?_;dsimp only[E4];have hok:f<=l/\l<=rss.length/\c<=C:=M5.ok (f,l,c) (EO _ (EG.mpr rfl));obtain⟨hfl,hln,hcC⟩:=hok;have hosl:os.length=rss.length:=by have:=M5.perm.length_eq;simpa using this
   rw[lA]at ph5;have ph5:zs.length+(eR vs+(l - f - 1))<=60:=ph5;nofun;refine aP (λg1=>?_) (λg1=>?_)
   ·nofun
    exact⟨_,mH b C vs (f,l,c),vs,rs,os,zs,rfl,s6,to6,ts6,tw6,T6,M5.skip hC (.inl ⋯),L5.left,by lia,⟨sts,TZ6⟩,_,_,_,_,_,_,rfl⟩
   nofun;refine aP (λg2=>?_) (λg2=>?_)
   ·have ecC:c=C:=Mu (Og.inj g2)
    nofun;exact⟨_,mH b C vs (f,l,c),vs,rs,os,zs,rfl,s6,to6,ts6,tw6,T6,M5.skip hC (.inr ecC),L5.left,by lia,⟨sts,TZ6⟩,_,_,_,_,_,_,rfl⟩
   have hcC':c<C:=by
    have:c≠C:=λz=>g2 (by rw[z])
    lia
   have hcw:c<w:=by lia
   nofun;refine⟨_,rfl,?_⟩;nofun;refine⟨_,rfl,?_⟩;refine⟨o,_,rfl,Oe to6,λz hz=>?_⟩;rw[pP os hfl ⋯];have hsl:((os.drop f).take (l - f)).length=l - f:=by rw[EI,Ft];lia
   have hsm:∀x∈(os.drop f).take (l - f),x<rss.length:=λx hx=>by simpa using M5.perm.mem_iff.mp (List.mem_of_mem_drop (F4 hx))
   have hstep:=λob hB=>M5.step (ob:=ob) hC hcC' (mS hG hcw) hB
   have hback:os.take f++(os.drop f).take (l - f)++os.drop l=os:=by
    have e1:os.drop l=(os.drop f).drop (l - f):=by rw[He];congr 1;lia
    rw[e1,Fi,Gj,Gj]
   generalize (os.drop f).take (l - f)=seg at hsl hsm hstep hback;obtain⟨H7,e9,s67,tz⟩:=nwR hz (.lst (NV seg));rw[e9];nofun;refine⟨z,rfl,⟨_,Oe tz⟩,aN (a:=z) (vs:=NV seg) (λi ys σ H'=>H'=H7/\i<=seg.length/\ys=NV ((seg.map λp=>(cu rss c).getD p 0).take i)/\∃v,σ=[v,some (Oi a),some (Og c)]) (by rw[aC];exact aq ⋯) (λi ys σ H' h=>by rw[h.2.2.1,aC,EI,Ea];lia) (λi ys σ H' h=>by rw[h.1];exact Oe tz) ⟨rfl,Eo _,rfl,none,rfl⟩ ?_ ?_⟩
   ·rintro j ys σ H' x hx ⟨rfl,_,rfl,v,rfl⟩
    have hil:=bq hx;obtain⟨q,rfl,hq,hqm,hj⟩:=aF hx;have hqn:=hsm q hqm;have hqp:q<ps.length:=by lia
    have er:rss[q]? = some rss[q]:=by simp[hqn]
    obtain⟨g3,g4⟩:=qj hG er hcw;nofun;refine bz (Oe (s67 _ _ (s6 _ _ ta))) (v:=Oi ps[q]) (aT (by rw[Eh];simp[hqp])) ?_;nofun;refine o9 (Of ((hR.same (s6.trans s67)).2 q ps[q] _ (by simp[hqp]) er)) (iW rfl g3) ?_;refine Om hil ⟨rfl,hj,?_,_,rfl⟩;rw[bZ,Em,Eh,hq];show _=NV (_++[(cu rss c).getD q 0])
    rw[getD_some g4]
   rintro ys σ H' ⟨rfl,_,rfl,v,rfl⟩ y hy;rw[Ee (by rw[aC,Ea];exact Ed _)];have hrl:(seg.map λp=>(cu rss c).getD p 0).length=l - f:=by rw[Ea];exact hsl
   have hrb:∀x∈seg.map λp=>(cu rss c).getD p 0,x<b:=λx hx=>by
    obtain⟨p,hp,rfl⟩:=EC.mp hx;have hp':p<(cu rss c).length:=by rw[qk];exact hsm p hp
    rw[Eb,D9 hp'];exact mS hG hcw _ (Es hp')
   generalize (seg.map λp=>(cu rss c).getD p 0)=row at hrl hrb hstep;obtain⟨H8,e9,s78,ty⟩:=nwR hy (.lst (NV row));rw[e9];nofun;refine⟨y,row,b,rfl,⟨ty,trivial⟩,hrb,by lia,hb,λcc H9 hcc s9 tcc=>?_⟩;nofun;refine⟨cc,cnt row b,rfl,.inl tcc,by rw[bF];exact hb,λHA sA=>?_⟩;have s6A:=s67.trans (s78.trans (s9.trans sA));have toA:=s6A _ _ to6;have tsA:=s6A _ _ ts6;have twA:=s6A _ _ tw6;have TA:=T6.same s6A;have TZA:=TZ6.same s6A;have tyA:=sA _ _ (s9 _ _ ty);have tccA:=sA _ _ tcc;have tzA:=(s78.trans (s9.trans sA)) _ _ tz;have s0A:=s6.trans s6A;have hcco:cc≠o:=λz=>by rw[z]at hcc;rw[(s67.trans s78) _ _ to6]at hcc;cases hcc
   have hccs:cc≠st:=λz=>by rw[z]at hcc;rw[(s67.trans s78) _ _ ts6]at hcc;cases hcc
   have hcsum:(cnt row b).sum=l - f:=by rw[wA hrb];exact hrl
   have hpar:=j4 vs f (c+1) (cnt row b);have hpp0:0<(jV (cnt row b)).length:=by
    rcases ID (jV (cnt row b)).length with g|g
    ·have:=i4 (cnt row b)
     have h0:((cnt row b).map λc=>c - 1).sum=0:=by
      have:∀c∈cnt row b,c - 1=0:=λc hc=>by
       have hn0:c∉jV (cnt row b):=λz=>by rw[FA.mp g]at z;cases z
       unfold jV at hn0;rw[G3]at hn0;have:¬ 0<c:=λz=>hn0 ⟨hc,decide_eq_true z⟩
       lia
      rw[gp 0 _ this];lia
     lia
    ·exact g
   nofun;apply wt (α:=List Nat) (S:=λob HD=>ByF row ob/\Same H HD/\HD o=some (.lst (NV (os.take f++cmp seg ob++os.drop l)))/\(∃zs':List Addr,HD st=some (.lst (zs'.map Oi))/\zs'.length+eR (vs++(bA f (cnt row b) (c+1)).reverse)<=60/\∃sts',TrAt HD zs' sts')/\HD wl=some (.lst (rs.map Oi))/\TrAt HD rs vs/\HD cc=some (.lst (NV (cnt row b))));case hA=>
    intro key;by_cases hp:eO (cnt row b)=true
    ·rw[if_pos hp]
     nofun;refine⟨y,row,b,rfl,tyA,hrb,by lia,hb,λd ob HB hd0 sB td hB=>?_⟩;have hO:=hB.ord;rw[hrl]at hO;have tzB:=sB _ _ tzA;nofun;refine⟨d,rfl,⟨_,Oe td⟩,aN (a:=d) (vs:=NV ob) (λi ys σ H'=>H'=HB/\i<=ob.length/\ys=NV ((cmp seg ob).take i)/\∃v,σ=[v,some (Oi z)]) (by rw[aC,hO.len];exact aq ⋯) (λi ys σ H' h=>by rw[h.2.2.1,aC,EI,ff];lia) (λi ys σ H' h=>by rw[h.1];exact Oe td) ⟨rfl,Eo _,rfl,none,rfl⟩ ?_ ?_⟩
     ·rintro j ys σ H9' x hx ⟨rfl,_,rfl,v,rfl⟩
      have hil:=bq hx;obtain⟨q,rfl,hq,hqm,hj⟩:=aF hx;have hqn:=hO.lt q hqm;have hqo:q<seg.length:=by lia
      nofun;refine bz (Oe tzB) (iW rfl (o:=seg[q]) (by simp[hqo])) ?_;refine Om hil ⟨rfl,hj,?_,_,rfl⟩;rw[bZ,Em,lx hq (r:=seg[q]) (by simp[hqo])];rfl
     rintro ys σ HB' ⟨eB,_,rfl,v,rfl⟩ e he;subst eB;rw[Ee (by rw[aC,ff];exact Ed _)];have hcl:(cmp seg ob).length=l - f:=by rw[ff,hO.len]
     obtain⟨HC,e9,sC,te⟩:=nwR he (.lst (NV (cmp seg ob)));rw[e9];have hoe:o≠e:=aj (sB _ _ toA) he;have sAC:=sB.trans sC;nofun;refine⟨o,e,_,_,_,_,rfl,rfl,rfl,rfl,sAC _ _ toA,te,hoe,by lia,by lia,by rw[aC];lia,ax (by rw[aC,aC];lia),?_⟩;have espl:(NV os).take ((f:Nat):Int).toNat++NV (cmp seg ob)++(NV os).drop ((l:Nat):Int).toNat=NV (os.take f++cmp seg ob++os.drop l):=by
      rw[Fh,Fh];unfold NV;rw[Ef,Ef,IL,IM]
     rw[espl];have sD:=(s0A.trans sAC).own (o:=.lst (NV (os.take f++cmp seg ob++os.drop l))) ho;have toD:(upd HC o (.lst (NV (os.take f++cmp seg ob++os.drop l)))) o=some (.lst (NV (os.take f++cmp seg ob++os.drop l))):=af;have tsD:(upd HC o (.lst (NV (os.take f++cmp seg ob++os.drop l)))) st=some (.lst (zs.map Oi)):=by rw[ar (E2 h0s)];exact sAC _ _ tsA
     have TZD:TrAt (upd HC o (.lst (NV (os.take f++cmp seg ob++os.drop l)))) zs sts:=(TZA.same sAC).own (sAC _ _ toA);have twD:(upd HC o (.lst (NV (os.take f++cmp seg ob++os.drop l)))) wl=some (.lst (rs.map Oi)):=by rw[ar (E2 how)];exact sAC _ _ twA
     have TD:TrAt (upd HC o (.lst (NV (os.take f++cmp seg ob++os.drop l)))) rs vs:=(TA.same sAC).own (sAC _ _ toA);have tcD:(upd HC o (.lst (NV (os.take f++cmp seg ob++os.drop l)))) cc=some (.lst (NV (cnt row b))):=by rw[ar hcco];exact sAC _ _ tccA
     generalize upd HC o (.lst (NV (os.take f++cmp seg ob++os.drop l)))=HD at sD toD tsD twD TD tcD TZD;nofun;refine⟨br tsD,?_⟩;nofun;refine⟨ax (by simp),λtq2 htq2=>?_⟩;obtain⟨HE,e9,sE,ttq2⟩:=nwR htq2 (.tup [Og (f:Nat),Og (l:Nat),Og (c:Nat)]);rw[e9];nofun;refine aW (sE _ _ tsD) (aq (by rw[Ea];lia)) ?_;rw[show zs.map Oi++[Oi tq2]=(zs++[tq2]).map Oi by rw[Ef];rfl];have hpp:1<(jV (cnt row b)).length:=by unfold eO at hp;exact of_decide_eq_true hp
     have q1:=(sD.trans sE).own (o:=.lst ((zs++[tq2]).map Oi)) hstn;have q2:(upd HE st (.lst ((zs++[tq2]).map Oi))) o=some (.lst (NV (os.take f++cmp seg ob++os.drop l))):=by rw[ar h0s];exact sE _ _ toD
     have q3:(upd HE st (.lst ((zs++[tq2]).map Oi))) st=some (.lst ((zs++[tq2]).map Oi)):=af;have q4:(upd HE st (.lst ((zs++[tq2]).map Oi))) wl=some (.lst (rs.map Oi)):=by rw[ar (E2 hsw)];exact sE _ _ twD
     have q5:TrAt (upd HE st (.lst ((zs++[tq2]).map Oi))) rs vs:=(TD.same sE).own (sE _ _ tsD);have q6:(upd HE st (.lst ((zs++[tq2]).map Oi))) cc=some (.lst (NV (cnt row b))):=by rw[ar hccs];exact sE _ _ tcD
     have q7:TrAt (upd HE st (.lst ((zs++[tq2]).map Oi))) (zs++[tq2]) (sts++[(f,l,c)]):=((TZD.same sE).snoc (s:=(f,l,c)) ttq2).own (sE _ _ tsD);generalize upd HE st (.lst ((zs++[tq2]).map Oi))=HF at q1 q2 q3 q4 q5 q6 q7;nofun;exact key ob HF ⟨hB,q1,q2,⟨_,q3,by rw[En,Fo];lia,_,q7⟩,q4,q5,q6⟩
    ·rw[if_neg hp]
     obtain⟨ob,hob,hcb⟩:∃ob,ByF row ob/\cmp seg ob=seg:=⟨_,pN λx hx y hy=>ik hrb hp hx hy,pO seg (by rw[hrl];exact hsl)⟩
     nofun;exact key ob HA ⟨hob,s0A,by rw[hcb,hback];exact toA,⟨zs,tsA,by lia,sts,TZA⟩,twA,TA,tccA⟩
   case hB=>
    rintro ob HD ⟨hob,sD,toD,⟨zs',tsD,phD,sts',TZD⟩,twD,TD,tcD⟩;refine⟨br twD,?_⟩;have ec1:(c:Int)+1=((c+1:Nat):Int):=by lia
    nofun;rw[ec1];refine⟨f,c+1,cc,cnt row b,rfl,tcD,by rw[bF];exact hb,λpl us HE hpl0 sE tpl TE=>?_⟩;nofun;refine⟨pl,_,rfl,Oe tpl,λrv hrv=>?_⟩;have erv:(us.map Oi).reverse=us.reverse.map Oi:=(Ji ..).symm;rw[erv];have sF:=sE.new (o:=.lst (us.reverse.map Oi)) hrv;have TF:=TE.same ((Oj HE).new (o:=.lst (us.reverse.map Oi)) hrv);have trv:(upd HE rv (.lst (us.reverse.map Oi))) rv=some (.lst (us.reverse.map Oi)):=af;generalize upd HE rv (.lst (us.reverse.map Oi))=HF at sF TF trv;have hlow:=L5.step (cs:=cnt row b) (bF row b);have hlen:=hlow.len (C:=C) (hstep ob hob).ok';have hul:us.length=b:=by rw[TF.1,iB,bF]
    have hrsl:rs.length+us.length<=12801:=by
     have e1:(vs++(bA f (cnt row b) (c+1)).reverse).length=rs.length+us.length:=by rw[En,F9,<-TD.1,TF.1]
     have e2:b*C<=64*200:=Md hb ⋯;lia
    nofun;refine j2 (sF _ _ twD) trv (GJ (E6 (by rw[Ea,Ea,F9];exact hrsl) (by decide))) ?_;rw[<-Ef];refine⟨_,nO vs hcC' (bF row b),_,rs++us.reverse,_,zs',rfl,(sD.trans sF).own hwn,?_,?_,af,?_,hstep ob hob,hlow,phD,⟨sts',(TZD.same sF).own (sF _ _ twD)⟩,_,_,_,_,_,_,rfl⟩
    ·rw[ar how];exact sF _ _ toD
    ·rw[ar hsw];exact sF _ _ tsD
    ·exact((TD.same sF).app TF.rev).own (sF _ _ twD)
theorem DY{G:Prop}{S B:Hp->Prop}(hA:(∀H,S H->B H)->G)(hB:∀H,S H->B H):G:=hA hB
theorem DZ{G:Prop}{S1 B1 S2 B2:Hp->Prop}(hA:(∀H,S1 H->B1 H)->(∀H,S2 H->B2 H)->G)(h1:∀H,S1 H->B1 H)(h2:∀H,S2 H->B2 H):G:=hA h1 h2
def qr:Sp:=λvs H Q _=>∃(a c:Addr) (ps qs:List Addr) (r1 r2:List (List Nat)),vs=[.ref a,.ref c]/\H a=some (.lst (ps.map Oi))/\H c=some (.lst (qs.map Oi))/\RowsT H ps r1/\RowsT H qs r2/\ps.length+qs.length<=60/\
 ∀(l:Addr) (us:List Addr) (ws:List (Nat×Nat)) H',H l=none->Same H H'->H' l=some (.lst (us.map Oi))->PrAt H' us ws->ws.length=ps.length+qs.length->Mgd r1 r2 r1.length r2.length ws->Q (.ref l) H'
theorem _root_.L2.Mgd.le{r1 r2:List (List Nat)}{ws:List (Nat×Nat)}(h:Mgd r1 r2 i j ws):i<=r1.length/\j<=r2.length/\∀w∈ws,(w.1=0/\w.2<r1.length)\/(w.1=1/\w.2<r2.length):=by
 induction h with
 | nil=>exact⟨Eo _,Eo _,λw h=>nomatch h⟩
 | one h hi c ih=>exact⟨hi,ih.2.1,λw hw=>(ET.mp hw).elim (ih.2.2 w) λg=>by rw[EG.mp g];exact .inl ⟨rfl,hi⟩⟩
 | two h hj c ih=>exact⟨ih.1,hj,λw hw=>(ET.mp hw).elim (ih.2.2 w) λg=>by rw[EG.mp g];exact .inr ⟨rfl,hj⟩⟩
theorem qu (T:Tx K mg t):FnOk P t.wd K mg base CX0 1 (t.f 21) (t.d 21) ["one","other"] qr:=by
 refine okT (N:=["one","other","both","at","beside"]) (T.fn 21 rfl) (λH Q hr nd h=>?_)
 ·obtain⟨a,c,ps,qs,r1,r2,rfl,ta,tc,hR1,hR2,hn,k⟩:=h
  have hl1:ps.length=r1.length:=hR1.1;have hl2:qs.length=r2.length:=hR2.1;refine⟨_,(ae (aD (i:=2) (aO aa))
   (ae (cv (aU (ah ag (ah ag aa))) (bo (K:=K) (n:=2) rfl (ao (ay (i:=3)) (ao (ay (i:=4)) aQ))))
   (ae (c9 EM (Ol (c7 (av pe (qv 3) (ak (aV (K:=K)) (by rfl) T.bg aK (ah (qv 0) aa)) (aw _)) (di (av pe (qv 4) (ak (aV (K:=K)) (by rfl) T.bg aK (ah (qv 1) aa)) (aw _))))) (ai (a8 (Ol (c7 (av fz (qv 4) (ak (aV (K:=K)) (by rfl) T.bg aK (ah (qv 1) aa)) (aw _)) (di (Ol (eJ (av pe (qv 3) (ak (aV (K:=K)) (by rfl) T.bg aK (ah (qv 0) aa)) (aw _)) (dZ (av (zx (K:=K) hr.units0) (aM (cM (K:=K)) (by rfl) T.bT bR (ah (aJ (a9 (K:=K)) (qv 0) (qv 3)) aa)) (aM (cM (K:=K)) (by rfl) T.bT bR (ah (aJ (a9 (K:=K)) (qv 1) (qv 4)) aa)) (aw _)))))))) (ae (bC (bf (K:=K) (qv 2) (ah (aU (ah ag (ah (qv 3) aa))) aa)))
   (ai (gh (i:=3) nd rfl (GM rfl) ag mi))) (ae (bC (bf (K:=K) (qv 2) (ah (aU (ah ag (ah (qv 4) aa))) aa)))
   (ai (gh (i:=4) nd rfl (GM rfl) ag mi))))))
   (ai (au (qv 2)))))),?_⟩
  dsimp only[st0];nofun;refine⟨ax (by simp),λl hbn=>?_⟩;obtain⟨H1,e9,s1,(tl:H1 l=some (.lst (([]:List Addr).map Oi)))⟩:=nwR hbn (.lst []);rw[e9];nofun;refine⟨ax (by simp),λz0 hz0=>?_⟩;obtain⟨H1,e9,s1,e8,tz0⟩:=nwD s1 hz0 (.tup [Og 0,Og 0]);rw[e9];have tl:=e8 _ _ tl;refine aY tz0 ?_;dsimp only[E4];nofun;refine⟨λm σ H'=>∃(us:List Addr) (ws:List (Nat×Nat)) (i j:Nat),m=(ps.length - i)+(qs.length - j)/\Same H H'/\H' l=some (.lst (us.map Oi))/\PrAt H' us ws/\ws.length=i+j/\Mgd r1 r2 i j ws/\σ=[some (Oi a),some (Oi c),some (Oi l),some (Og (i:Nat)),some (Og (j:Nat))],⟨_,[],[],0,0,rfl,s1,tl,PrAt.nil,rfl,Mgd.nil,rfl⟩,?_⟩;rintro m σ H3 ⟨us,ws,i,j,rfl,s3,tb3,hU,hwl,hM,rfl⟩;have hil:=hM.le.1;have hjl:=hM.le.2.1;have eI:∀z:Nat,(z:Int)+1=((z+1:Nat):Int):=λz=>by lia
  nofun;apply DY (S:=λHD=>HD=H3/\(i<ps.length\/j<qs.length));case hA=>
   intro key;refine aE (Oe (s3 _ _ ta)) ?_;rw[Ea];nofun;refine aP (λg1=>?_) (λg1=>?_)
   ·skip
    nofun;refine⟨_,λ_ _ z=>z,?_⟩;generalize h9:H3=H9;exact key H9 ⟨h9.symm,.inl ⋯⟩
   nofun;refine aE (Oe (s3 _ _ tc)) ?_;rw[Ea];nofun;refine aP (λg1'=>?_) (λg1'=>?_)
   ·skip
    nofun;refine⟨_,λ_ _ z=>z,?_⟩;generalize h9:H3=H9;exact key H9 ⟨h9.symm,.inr ⋯⟩
   nofun;have ei:i=r1.length:=by lia
   have ej:j=r2.length:=by lia
   rw[ei,ej]at hM;exact k l us ws H3 hbn s3 tb3 hU ⋯ hM
  case hB=>
   rintro HD ⟨rfl,hor⟩;nofun;apply DZ (S1:=λHE=>HE=HD/\i<r1.length/\(j=r2.length\/lxt (r2.getD j []) (r1.getD i [])=false)) (S2:=λHE=>HE=HD/\j<r2.length/\(i=r1.length\/lxt (r2.getD j []) (r1.getD i [])=true));case hA=>
    intro key1 key2;refine aE (Oe (s3 _ _ tc)) ?_;rw[Ea];nofun;refine aP (λg2=>?_) (λg2=>?_)
    ·have e2:j=qs.length:=Mu (Og.inj g2)
     nofun;generalize h9:HD=H9;exact key1 H9 ⟨h9.symm,by lia,.inl ⋯⟩
    nofun;refine aE (Oe (s3 _ _ ta)) ?_;rw[Ea];nofun;have g2':j<qs.length:=by have:j≠qs.length:=λz=>g2 (by rw[z]);lia
    refine aP (λg3=>?_) (λg3=>?_)
    ·have hip:i<ps.length:=by lia
     have ei:r1[i]? = some (r1[i]'(by rw[<-hR1.1];exact hip)):=D9 _;have ej:r2[j]? = some (r2[j]'(by rw[<-hR2.1];exact g2')):=D9 _;have t1:=s3 _ _ (hR1.2 i ps[i] _ (by simp[hip]) ei);have t2:=s3 _ _ (hR2.2 j qs[j] _ (by simp[g2']) ej);nofun;refine bz (Oe (s3 _ _ ta)) (v:=Oi ps[i]) (aT (by rw[Eh];simp[hip])) ?_;nofun;refine⟨ps[i],_,rfl,.inr ⟨Of t1,?_⟩⟩;nofun;refine bz (Oe (s3 _ _ tc)) (v:=Oi qs[j]) (aT (by rw[Eh];simp[g2'])) ?_;nofun;refine⟨qs[j],_,rfl,.inr ⟨Of t2,?_⟩⟩;refine uF (ns:=cR _) (ms:=cR _) (Of (by rw[<-dJ];exact t1)) (Of (by rw[<-dJ];exact t2)) ?_;have ev:HT.dq (cR (r1[i]'(by rw[<-hR1.1];exact hip))) (cR (r2[j]'(by rw[<-hR2.1];exact g2')))=!lxt (r2.getD j []) (r1.getD i []):=by
      rw[HT.jY,fQ ei,fQ ej];rfl
     rw[ev];nofun;cases hle:lxt (r2.getD j []) (r1.getD i [])with
     | false=>
      nofun;generalize h9:HD=H9;exact key1 H9 ⟨h9.symm,by lia,.inr hle⟩
     | true=>
      nofun;generalize h9:HD=H9;exact key2 H9 ⟨h9.symm,by lia,.inr hle⟩
    ·skip
     nofun;generalize h9:HD=H9;exact key2 H9 ⟨h9.symm,by lia,.inl ⋯⟩
   case h1=>
    rintro HE ⟨rfl,hi,hc⟩;refine⟨br tb3,?_⟩;nofun;refine⟨ax (by simp),λu hu=>?_⟩;obtain⟨H4,e9,s4,(tu:H4 u=some (.tup [Og ((0:Nat):Int),Og (i:Nat)]))⟩:=nwR hu (.tup [Og 0,Og (i:Nat)]);rw[e9];nofun;refine aW (s4 _ _ tb3) (by rw[Ea,hU.1];exact aq ⋯) ?_;nofun;exact⟨(ps.length - (i+1))+(qs.length - j),by lia,us++[u],ws++[(0,i)],i+1,j,rfl,(s3.trans s4).own hbn,by rw[af,Ef];rfl,((hU.same s4).snoc tu).own (s4 _ _ tb3),by rw[En,Fo];lia,hM.one hi hc,by rw[<-eI];rfl⟩
   case h2=>
    rintro HE ⟨rfl,hj,hc⟩;refine⟨br tb3,?_⟩;nofun;refine⟨ax (by simp),λu hu=>?_⟩;obtain⟨H4,e9,s4,(tu:H4 u=some (.tup [Og ((1:Nat):Int),Og (j:Nat)]))⟩:=nwR hu (.tup [Og 1,Og (j:Nat)]);rw[e9];nofun;refine aW (s4 _ _ tb3) (by rw[Ea,hU.1];exact aq ⋯) ?_;nofun;exact⟨(ps.length - i)+(qs.length - (j+1)),by lia,us++[u],ws++[(1,j)],i,j+1,rfl,(s3.trans s4).own hbn,by rw[af,Ef];rfl,((hU.same s4).snoc tu).own (s4 _ _ tb3),by rw[En,Fo];lia,hM.two hj hc,by rw[<-eI];rfl⟩
def Cv:Sp:=λvs H Q _=>∃(r a c:Addr) (ps:List Addr) (rss:List (List Nat)) (xs ys:List Nat) (f m e:Nat),vs=[.ref r,.ref a,.ref c]/\H r=some (.lst (ps.map Oi))/\RowsT H ps rss/\H a=some (.lst (NV xs))/\H c=some (.lst (NV ys))/\Seg rss f m xs/\Seg rss m e ys/\f<=m/\m<=e/\e<=rss.length/\rss.length<=60/\
 ∀(l:Addr) (zs:List Nat) H',H l=none->Same H H'->H' l=some (.lst (NV zs))->Seg rss f e zs->Q (.ref l) H'
theorem fI (T:Tx K mg t):FnOk P t.wd K mg base CX0 2 (t.f 22) (t.d 22) ["rows","one","other"] Cv:=by
 refine okT (N:=["rows","one","other","pairs","places"]) (T.fn 22 rfl) (λH Q hr nd h=>?_)
 ·obtain⟨r,a,c,ps,rss,xs,ys,f,m,e,rfl,tr,hR,ta,tc,hsx,hsy,hfm,hme,hel,hrn,k⟩:=h
  have hpl:ps.length=rss.length:=hR.1;have hx:∀x∈xs,x<rss.length:=λx hx=>by have:=hsx.mem hx;lia
  have hy:∀x∈ys,x<rss.length:=λx hx=>by have:=hsy.mem hx;lia
  have hn:xs.length+ys.length<=60:=by have:=hsx.len;have:=hsy.len;lia
  ·refine⟨_,(ae (aD (i:=3) (aA (qu T) hr (T.fn 21 rfl) (ah (aS (N:=["place","rows"]) (tgs:=["place"]) (frs:=["rows"]) (ix:=[0]) ⟨rfl,by decide +kernel,rfl,by decide +kernel,rfl,rfl,⟨⟨rfl,rfl,_,rfl,rfl⟩,Ek⟩,⟨rfl,Ek⟩,rfl⟩ rfl (aI (K:=K) (qv 1)) (λ_ _ _ _=>(ay (i:=0))) (λ_ _ _ _=>(aJ (a9 (K:=K)) (qv 1) (qv 0)))) (ah (aS (N:=["place","rows"]) (tgs:=["place"]) (frs:=["rows"]) (ix:=[0]) ⟨rfl,by decide +kernel,rfl,by decide +kernel,rfl,rfl,⟨⟨rfl,rfl,_,rfl,rfl⟩,Ek⟩,⟨rfl,Ek⟩,rfl⟩ rfl (aI (K:=K) (qv 2)) (λ_ _ _ _=>(ay (i:=0))) (λ_ _ _ _=>(aJ (a9 (K:=K)) (qv 1) (qv 0)))) aa))))
   (ae (aD (i:=4) (aU (ah (qv 1) (ah (qv 2) aa))))
   (ai (au (aS (N:=["which","at","places"]) (tgs:=["which","at"]) (frs:=["places"]) (ix:=[4]) ⟨rfl,by decide +kernel,rfl,by decide +kernel,rfl,rfl,⟨⟨rfl,rfl,_,rfl,rfl⟩,Ek⟩,⟨rfl,Ek⟩,rfl⟩ rfl (aI (K:=K) (qv 3)) (λ_ _ _ _=>(bo (K:=K) (n:=2) rfl (ao (ay (i:=0)) (ao (ay (i:=1)) aQ)))) (λ_ _ _ _=>(aJ (a9 (K:=K)) (aJ (fE (K:=K)) (qv 2) (qv 0)) (qv 1)))))))),?_⟩
   dsimp only[st0];nofun;refine⟨a,rfl,⟨_,Oe ta⟩,aN (a:=a) (vs:=NV xs) (λi zs σ H'=>H'=H/\i<=xs.length/\(∃us:List Addr,zs=us.map Oi/\us.length=i/\RowsT H us ((xs.take i).map λx=>rss.getD x []))/\∃v,σ=[v,some (Oi r)]) (by rw[aC];exact aq ⋯) (λi zs σ H' h=>by obtain⟨_,_,⟨us,rfl,e,_⟩,_⟩:=h;rw[Ea,e]) (λi zs σ H' h=>by rw[h.1];exact Oe ta) ⟨rfl,Eo _,⟨[],rfl,rfl,rfl,λi p z h=>by simp at h⟩,none,rfl⟩ ?_ ?_⟩
   ·rintro i zs σ H' x hx' ⟨rfl,_,⟨us,rfl,hul,hU⟩,v,rfl⟩
    have hil:=bq hx';obtain⟨q,rfl,hq,hqm,hi⟩:=aF hx';have hqn:=hx q hqm;have hqp:q<ps.length:=by lia
    have eq':rss[q]? = some rss[q]:=by simp[hqn]
    have eg:rss.getD q []=rss[q]:=by rw[Eb,eq'];rfl
    nofun;refine bz (Oe tr) (v:=Oi ps[q]) (aT (by rw[Eh];simp[hqp])) ?_;refine Om hil ⟨rfl,hi,⟨us++[ps[q]],by rw[Ef];rfl,by simp[hul],?_⟩,_,rfl⟩;rw[Em,hq,Ef];show RowsT _ _ (_++[rss.getD q []])
    rw[eg];exact hU.snoc (hR.2 q ps[q] _ (by simp[hqp]) eq')
   rintro zs σ H1 ⟨e1,_,⟨us,rfl,hul,hU⟩,v,rfl⟩ l1 hl1;subst e1;rw[aC]at hul hU;rw[Ee (Ed _)]at hU;obtain⟨H2,e9,s2,tl1⟩:=nwR hl1 (.lst (us.map Oi));rw[e9];have tc2:=s2 _ _ tc;nofun;refine⟨c,rfl,⟨_,Oe tc2⟩,aN (a:=c) (vs:=NV ys) (λi zs σ H'=>H'=H2/\i<=ys.length/\(∃vs:List Addr,zs=vs.map Oi/\vs.length=i/\RowsT H2 vs ((ys.take i).map λx=>rss.getD x []))/\∃v,σ=[v,some (Oi r)]) (by rw[aC];exact aq ⋯) (λi zs σ H' h=>by obtain⟨_,_,⟨us,rfl,e,_⟩,_⟩:=h;rw[Ea,e]) (λi zs σ H' h=>by rw[h.1];exact Oe tc2) ⟨rfl,Eo _,⟨[],rfl,rfl,rfl,λi p z h=>by simp at h⟩,none,rfl⟩ ?_ ?_⟩
   ·rintro i zs σ H' x hx' ⟨rfl,_,⟨vs,rfl,hvl,hV⟩,v,rfl⟩
    have hil:=bq hx';obtain⟨q,rfl,hq,hqm,hi⟩:=aF hx';have hqn:=hy q hqm;have hqp:q<ps.length:=by lia
    have eq':rss[q]? = some rss[q]:=by simp[hqn]
    have eg:rss.getD q []=rss[q]:=by rw[Eb,eq'];rfl
    nofun;refine bz (Oe (s2 _ _ tr)) (v:=Oi ps[q]) (aT (by rw[Eh];simp[hqp])) ?_;refine Om hil ⟨rfl,hi,⟨vs++[ps[q]],by rw[Ef];rfl,by simp[hvl],?_⟩,_,rfl⟩;rw[Em,hq,Ef];show RowsT _ _ (_++[rss.getD q []])
    rw[eg];exact hV.snoc ((hR.same s2).2 q ps[q] _ (by simp[hqp]) eq')
   rintro zs σ H3 ⟨e3,_,⟨vs,rfl,hvl,hV⟩,v,rfl⟩ l2 hl2;subst e3;rw[aC]at hvl hV;rw[Ee (Ed _)]at hV;obtain⟨H4,e9,s34,tl2⟩:=nwR hl2 (.lst (vs.map Oi));rw[e9];have s4:=s2.trans s34;nofun;refine⟨l1,l2,us,vs,_,_,rfl,s34 _ _ tl1,tl2,hU.same s4,hV.same s34,by lia,λpl qs ws H5 hpl0 s5 tpl hP hwl hM=>?_⟩;rw[Ea,Ea]at hM;have hok:=hM.le.2.2;have hul':us.length=xs.length:=hul;have hvl':vs.length=ys.length:=hvl;have s05:=s4.trans s5;nofun;refine⟨ax (by simp),λtt htt=>?_⟩;obtain⟨H6,e9,s56,ttt⟩:=nwR htt (.tup [Oi a,Oi c]);rw[e9];have s06:=s05.trans s56;have tpl6:=s56 _ _ tpl;have P6:=hP.same s56;have hqw:qs.length=ws.length:=hP.1;nofun;refine⟨pl,rfl,⟨_,Oe tpl6⟩,aN (a:=pl) (vs:=qs.map Oi) (λi zs σ H'=>H'=H6/\(zs=NV ((ws.take i).map (kP xs ys))/\i<=ws.length)/\∃v w,σ=[v,w,some (Oi tt)]) (by rw[Ea];exact aq ⋯) (λi zs σ H' h=>by rw[h.2.1.1,aC,Ea,EI];have:=h.2.1.2;lia) (λi zs σ H' h=>by rw[h.1];exact Oe tpl6) ⟨rfl,⟨rfl,Eo _⟩,none,none,rfl⟩ ?_ ?_⟩
   ·rintro i zs σ H' x hx' ⟨rfl,⟨rfl,hnl⟩,v,w,rfl⟩
    have hil:=bq hx';obtain⟨q,rfl,hq,_,hi⟩:=aF hx';have hiw:i<ws.length:=by lia
    have tq:=P6.2 i q ws[i] hq (by simp[hiw]);have hw:=hok ws[i] (Es hiw);have etk:(ws.take (i+1)).map (kP xs ys)=(ws.take i).map (kP xs ys)++[kP xs ys ws[i]]:=by rw[Em,D9 hiw,Ef];rfl
    generalize ws[i]=w9 at tq hw etk;obtain⟨w1,w2⟩:=w9;refine aY tq ?_;dsimp only[E4];rcases hw with⟨h1,h2⟩|⟨h1,h2⟩
    ·have h1:w1=0:=h1
     have h2:w2<xs.length:=by have:=h2;rw[Ea]at this;exact this
     subst h1;have hw2:w2<xs.length:=by lia
     nofun;refine bz (Oe (s06 _ _ ta)) (iW rfl (o:=xs[w2]) (by simp[hw2])) ?_;refine Om hil ⟨rfl,⟨?_,hiw⟩,_,_,rfl⟩;rw[etk,<-bZ];have ep:kP xs ys (0,w2)=xs[w2]:=by unfold kP;simp[hw2]
     rw[ep]
    ·have h1:w1=1:=h1
     have h2:w2<ys.length:=by have:=h2;rw[Ea]at this;exact this
     subst h1;have hw2:w2<ys.length:=by lia
     nofun;refine bz (Oe (s06 _ _ tc)) (iW rfl (o:=ys[w2]) (by simp[hw2])) ?_;refine Om hil ⟨rfl,⟨?_,hiw⟩,_,_,rfl⟩;rw[etk,<-bZ];have ep:kP xs ys (1,w2)=ys[w2]:=by unfold kP;simp[hw2]
     rw[ep]
   ·rintro zs σ H7 ⟨e7,⟨rfl,hnl⟩,v,w,rfl⟩ l hl
    subst e7;rw[Ea,Ee ⋯];exact k l _ _ (s06.free hl) (s06.new hl) af (Mgd.seg hsx hsy hfm hme hM)
def Cw:Sp:=λvs H Q _=>∃(a:Addr) (rss:List (List Nat)) (w b:Nat),vs=[.ref a]/\Rws H a rss w b/\∀(t o st:Addr) (os:List Nat) (qs:List Addr) H',H t=none->H o=none->Same H H'->H' t=some (.tup [.ref o,.ref st])->H' o=some (.lst (NV os))->OrdR rss os->H' st=some (.lst (qs.map Oi))->TrAt H' qs (fk (bJ rss rss.length))->(fk (bJ rss rss.length)).length<=60->Q (.ref t) H'
theorem nZ (T:Tx K mg t):FnOk P t.wd K mg base CX0 3 (t.f 25) (t.d 25) ["rows"] Cw:=by
 refine okT (N:=["rows","order","steps","first","middle","last"]) (T.fn 25 rfl) (λH Q hr nd h=>?_)
 ·obtain⟨a,rss,w,b,rfl,⟨⟨ps,ta,hR⟩,hG,hn,hw,hb⟩,k⟩:=h
  have hpl:ps.length=rss.length:=hR.1
  ·refine⟨_,(ae (aD (i:=1) (iV rfl rfl T.dD rfl T.cf (ah (ak (aV (K:=K)) (by rfl) T.bg aK (ah (qv 0) aa)) aa)))
   (ae (aD (i:=2) (aJ (fE (K:=K)) (aA (fG T) hr (T.fn 24 rfl) (ah (aA (xg T) hr (T.fn 20 rfl) (ah (qv 0) aa)) aa)) ag))
   (ae (bX EM rfl (aI (K:=K) (qv 2)) (bo (K:=K) (n:=3) rfl (ao (ay (i:=3)) (ao (ay (i:=4)) (ao (ay (i:=5)) aQ)))) (ai (uG (aA (fI T) hr (T.fn 22 rfl) (ah (qv 0) (ah (bL (gT (K:=K)) (qv 1) (bE (qv 3)) (bE (qv 4))) (ah (bL (gT (K:=K)) (qv 1) (bE (qv 4)) (bE (qv 5))) aa)))) (qv 1) (qv 3) (qv 5))))
   (ai (au (aU (ah (qv 1) (ah (qv 2) aa)))))))),?_⟩
   dsimp only[st0];nofun;refine aE (Oe ta) ?_;rw[Ea,hpl];nofun;refine⟨rss.length,rfl,by lia,λo ho=>?_⟩;rw[iX];have er:((Ej rss.length).map λi=>0+i)=Ej rss.length:=by simp
   rw[er];obtain⟨H1,e9,s1,to1⟩:=nwR ho (.lst (NV (Ej rss.length)));rw[e9];nofun;refine⟨a,ps,rss,rfl,s1 _ _ ta,hR.same s1,hn,λl H2 hl s2 tl=>?_⟩;have hrl:=j5 rss rss.length;have hrs:=eT rss rss.length;obtain⟨al,aok⟩:=iq _ (bJ rss rss.length) (Ed _);nofun;refine⟨l,bJ rss rss.length,rfl,.inl tl,by lia,λt st qs H3 hst s3 tt ts T3=>?_⟩;have s13:=s2.trans s3;have to3:=s13 _ _ to1;have s03:=s1.trans s13;have hso:st≠o:=λe=>by rw[e,s2 _ _ to1]at hst;cases hst
   have hql:=T3.1;nofun;refine⟨st,rfl,⟨_,Oe ts⟩,cK (a:=st) (xs:=qs.map Oi) (λi σ H'=>Same H H'/\H' st=some (.lst (qs.map Oi))/\TrAt H' qs (fk (bJ rss rss.length))/\(∃os:List Nat,H' o=some (.lst (NV os))/\os.length=rss.length/\RnS rss rss.length ((fk (bJ rss rss.length)).drop i) os)/\∃v3 v4 v5,σ=[some (Oi a),some (Oi o),some (Oi st),v3,v4,v5]) ⟨s03,ts,T3,⟨_,to3,by simp,sv rss rss.length⟩,_,_,_,rfl⟩ (λi σ H' _ h=>Oe h.2.1) ?_ ?_⟩
   ·rintro i x σ H4 hx ⟨s4,ts4,T4,⟨os,to4,hol,hrn⟩,v3,v4,v5,rfl⟩
    obtain⟨q,rfl,hq,_,hi⟩:=aF hx;have hia:i<(fk (bJ rss rss.length)).length:=by lia
    have tq:=T4.2 i q _ hq (D9 hia);have hok:=aok _ (Es hia);rw[IZ hia]at hrn;generalize (fk (bJ rss rss.length))[i]=s9 at tq hok hrn;obtain⟨f,m,e⟩:=s9;have tq:H4 q=some (.tup [.int (f:Nat),.int (m:Nat),.int (e:Nat)]):=tq;have hok:f<=m/\m<=e/\e<=(bJ rss rss.length).sum:=hok;obtain⟨_,_,_,g1,g2,hnx⟩:=hrn;have g1:Seg rss f m ((os.drop f).take (m - f)):=g1;have g2:Seg rss m e ((os.drop m).take (e - m)):=g2;have hnx:∀x,Seg rss f e x->RnS rss rss.length ((fk (bJ rss rss.length)).drop (i+1)) (os.take f++x++os.drop e):=hnx
    rw[hrs]at hok;refine df tq ?_;dsimp only[E4];nofun;refine⟨_,rfl,?_⟩;nofun;refine⟨_,rfl,?_⟩;refine qg to4 λl1 H5 hl1 s5 tl1=>?_
    rw[pP os ⋯ ⋯]at tl1;nofun;refine⟨_,rfl,?_⟩;nofun;refine⟨_,rfl,?_⟩;refine qg (s5 _ _ to4) λl2 H6 hl2 s6 tl2=>?_
    rw[pP os ⋯ ⋯]at tl2;have c1:((os.drop f).take (m - f)).length=m - f:=by rw[EI,Ft];lia
    have c2:((os.drop m).take (e - m)).length=e - m:=by rw[EI,Ft];lia
    have s46:=s5.trans s6;nofun;refine⟨a,l1,l2,ps,rss,_,_,f,m,e,rfl,s46 _ _ (s4 _ _ ta),(hR.same s4).same s46,s6 _ _ tl1,tl2,g1,g2,hok.1,hok.2.1,hok.2.2,hn,λz zs H7 hz s7 tz hzs=>?_⟩;have hzl:=hzs.len;have s47:=s46.trans s7;have to7:=s47 _ _ to4;have hzo:o≠z:=λe=>by rw[<-e,s46 _ _ to4]at hz;cases hz
    nofun;refine⟨o,z,_,_,_,_,rfl,rfl,rfl,rfl,to7,tz,hzo,by lia,by lia,by rw[aC];lia,ax (by rw[aC,aC];lia),?_⟩;have espl:(NV os).take ((f:Nat):Int).toNat++NV zs++(NV os).drop ((e:Nat):Int).toNat=NV (os.take f++zs++os.drop e):=by
     rw[Fh,Fh];unfold NV;rw[Ef,Ef,IL,IM]
    rw[espl];exact⟨(s4.trans s47).own ho,by rw[ar hso];exact s47 _ _ ts4,(T4.same s47).own to7,⟨_,af,by rw[En,En,EI,Ft];lia,hnx zs hzs⟩,_,_,_,rfl⟩
   ·rintro σ H4 ⟨s4,ts4,T4,⟨os,to4,hol,hrn⟩,v3,v4,v5,rfl⟩
    nofun;refine⟨ax (by simp),λt2 ht2=>?_⟩;rw[Ea,List.drop_eq_nil_of_le ⋯]at hrn;exact k t2 o st os qs _ (s4.free ht2) ho (s4.new ht2) af (by rw[ar (aj to4 ht2)];exact to4) ⟨by have:=hrn.perm;rwa [Nat.sub_zero,<-J6]at this,hrn.sort⟩ (by rw[ar (aj ts4 ht2)];exact ts4) (T4.same ((Oj H4).new ht2)) ⋯
def eW:Sp:=λvs H Q _=>∃(a:Addr) (rss:List (List Nat)) (w b:Nat),vs=[.ref a,.int b]/\Rws H a rss w b/\
 ∀(t o:Addr) (os:List Nat) (m:Int) H',H t=none->H o=none->Same H H'->H' t=some (.tup [.ref o,.int m])->H' o=some (.lst (NV os))->OrdR rss os->Q (.ref t) H'
theorem kq (T:Tx K mg t):FnOk P t.wd K mg base CX0 4 (t.f 42) (t.d 42) ["rows","base"] eW:=by
 refine okT (N:=["rows","base","order","steps"]) (T.fn 42 rfl) (λH Q hr nd h=>?_)
 ·obtain⟨a,rss,w,b,rfl,hW,k⟩:=h
  refine⟨_,(ae (cv (aA (ko T) hr (T.fn 37 rfl) (ah (qv 0) (ah (qv 1) aa))) (bo (K:=K) (n:=2) rfl (ao (ay (i:=2)) (ao (ay (i:=3)) aQ))))
   (ai (au (aU (ah (qv 2) (ah (ak (ib (K:=K) rfl) (by rfl) T.jt iz (ah (aS (N:=["column","behind"]) (tgs:=["column","behind"]) (frs:=[]) (ix:=[]) ⟨rfl,by decide +kernel,rfl,by decide +kernel,rfl,rfl,Ek,Ek,rfl⟩ rfl (aI (K:=K) (qv 3)) (λ_ _ _ _=>(bo (K:=K) (n:=2) rfl (ao (ay (i:=0)) (ao (ay (i:=1)) aQ)))) (λ_ _ _ _=>(ak (aV (K:=K)) (by rfl) T.bg aK (ah (qv 1) aa)))) aa)) aa)))))),?_⟩
  dsimp only[st0];nofun;refine⟨a,rss,w,b,rfl,hW,λt o st qs os H1 tt to hO ts hS hq _ hon s1=>?_⟩;refine aY tt ?_;dsimp only[E4];nofun;refine⟨st,rfl,⟨_,Oe ts⟩,aN (a:=st) (vs:=qs.map Oi) (λi ys σ H'=>H'=H1/\(∃ns:List Int,ys=ns.map Og/\ns.length=i)/\∃v w,σ=[v,w]) (by rw[Ea];exact aq ⋯) (λi ys σ H' h=>by obtain⟨_,⟨ns,rfl,e⟩,_⟩:=h;rw[Ea,e]) (λi ys σ H' h=>by rw[h.1];exact Oe ts) ⟨rfl,⟨[],rfl,rfl⟩,none,none,rfl⟩ ?_ ?_⟩
  ·rintro i ys σ H' x hx ⟨rfl,⟨ns,rfl,hnl⟩,v,w,rfl⟩
   have hil:=bq hx;obtain⟨q,rfl,_,hq,_⟩:=aF hx;obtain⟨c,l,ms,tq,tl,_⟩:=hS q hq;refine aY tq ?_;dsimp only[E4];nofun;refine aE (Oe tl) ?_;exact Om hil ⟨rfl,⟨ns++[_],by rw[Ef];rfl,by simp[hnl]⟩,_,_,rfl⟩
  rintro ys σ H2 ⟨rfl,⟨ns,rfl,hnl⟩,v,w,rfl⟩ z hz;obtain⟨H3,e9,s2,tz⟩:=nwR hz (.lst (ns.map Og));rw[e9];nofun;refine f7 (Oe tz) ?_;nofun;refine⟨ax (by simp),λt2 ht2=>?_⟩;have to3:=s2 _ _ to;exact k t2 o os _ _ ((s1.trans s2).free ht2) hon ((s1.trans s2).new ht2) af (by rw[ar (aj to3 ht2)];exact to3) hO
theorem jg (T:Tx K mg t):FnOk P t.wd K mg base CX0 4 (t.f 43) (t.d 43) ["rows","base"] eW:=by
 refine okT (N:=["rows","base","order","steps"]) (T.fn 43 rfl) (λH Q hr nd h=>?_)
 ·obtain⟨a,rss,w,b,rfl,hW,k⟩:=h
  refine⟨_,(ae (cv (aA (jf T) hr (T.fn 8 rfl) (ah (qv 0) (ah (qv 1) aa))) (bo (K:=K) (n:=2) rfl (ao (ay (i:=2)) (ao (ay (i:=3)) aQ))))
   (ai (au (aU (ah (qv 2) (ah (ak (ib (K:=K) rfl) (by rfl) T.jt iz (ah (aS (N:=["first","last","column"]) (tgs:=["first","last","column"]) (frs:=[]) (ix:=[]) ⟨rfl,by decide +kernel,rfl,by decide +kernel,rfl,rfl,Ek,Ek,rfl⟩ rfl (aI (K:=K) (qv 3)) (λ_ _ _ _=>(bo (K:=K) (n:=3) rfl (ao (ay (i:=0)) (ao (ay (i:=1)) (ao (ay (i:=2)) aQ))))) (λ_ _ _ _=>(az dn (qv 1) (qv 0)))) aa)) aa)))))),?_⟩
  dsimp only[st0];nofun;refine⟨a,rss,w,b,rfl,hW,λt o st qs os sts H1 hsl tt to hO ts hT _ hon s1=>?_⟩;have hql:qs.length<=60:=by rw[hT.1];exact hsl
  refine aY tt ?_;dsimp only[E4];nofun;refine⟨st,rfl,⟨_,Oe ts⟩,aN (a:=st) (vs:=qs.map Oi) (λi ys σ H'=>H'=H1/\(∃ns:List Int,ys=ns.map Og/\ns.length=i)/\∃v w u,σ=[v,w,u]) (by rw[Ea];exact aq ⋯) (λi ys σ H' h=>by obtain⟨_,⟨ns,rfl,e⟩,_⟩:=h;rw[Ea,e]) (λi ys σ H' h=>by rw[h.1];exact Oe ts) ⟨rfl,⟨[],rfl,rfl⟩,none,none,none,rfl⟩ ?_ ?_⟩
  ·rintro i ys σ H' x hx ⟨rfl,⟨ns,rfl,hnl⟩,v,w,u,rfl⟩
   have hil:=bq hx;obtain⟨q,rfl,hq,_,hi⟩:=aF hx;have tq:=hT.2 i q _ hq (D9 (by rw[<-hT.1];exact hi));refine df tq ?_;dsimp only[E4];nofun;exact Om hil ⟨rfl,⟨ns++[_],by rw[Ef];rfl,by simp[hnl]⟩,_,_,_,rfl⟩
  rintro ys σ H2 ⟨rfl,⟨ns,rfl,hnl⟩,v,w,u,rfl⟩ z hz;obtain⟨H3,e9,s2,tz⟩:=nwR hz (.lst (ns.map Og));rw[e9];nofun;refine f7 (Oe tz) ?_;nofun;refine⟨ax (by simp),λt2 ht2=>?_⟩;have to3:=s2 _ _ to;exact k t2 o os _ _ ((s1.trans s2).free ht2) hon ((s1.trans s2).new ht2) af (by rw[ar (aj to3 ht2)];exact to3) hO
theorem kr (T:Tx K mg t):FnOk P t.wd K mg base CX0 4 (t.f 44) (t.d 44) ["rows","base"] eW:=by
 refine okT (N:=["rows","base","order","steps"]) (T.fn 44 rfl) (λH Q hr nd h=>?_)
 ·obtain⟨a,rss,w,b,rfl,hW,k⟩:=h
  refine⟨_,(ae (cv (aA (nZ T) hr (T.fn 25 rfl) (ah (qv 0) aa)) (bo (K:=K) (n:=2) rfl (ao (ay (i:=2)) (ao (ay (i:=3)) aQ))))
   (ai (au (aU (ah (qv 2) (ah (ak (ib (K:=K) rfl) (by rfl) T.jt iz (ah (aS (N:=["first","middle","last"]) (tgs:=["first","middle","last"]) (frs:=[]) (ix:=[]) ⟨rfl,by decide +kernel,rfl,by decide +kernel,rfl,rfl,Ek,Ek,rfl⟩ rfl (aI (K:=K) (qv 3)) (λ_ _ _ _=>(bo (K:=K) (n:=3) rfl (ao (ay (i:=0)) (ao (ay (i:=1)) (ao (ay (i:=2)) aQ))))) (λ_ _ _ _=>(az dn (qv 2) (qv 0)))) aa)) aa)))))),?_⟩
  dsimp only[st0];nofun;refine⟨a,rss,w,b,rfl,hW,λt o st os qs H1 _ hon s1 tt to hO ts hT hsl=>?_⟩;have hql:qs.length<=60:=by rw[hT.1];exact hsl
  refine aY tt ?_;dsimp only[E4];nofun;refine⟨st,rfl,⟨_,Oe ts⟩,aN (a:=st) (vs:=qs.map Oi) (λi ys σ H'=>H'=H1/\(∃ns:List Int,ys=ns.map Og/\ns.length=i)/\∃v w u,σ=[v,w,u]) (by rw[Ea];exact aq ⋯) (λi ys σ H' h=>by obtain⟨_,⟨ns,rfl,e⟩,_⟩:=h;rw[Ea,e]) (λi ys σ H' h=>by rw[h.1];exact Oe ts) ⟨rfl,⟨[],rfl,rfl⟩,none,none,none,rfl⟩ ?_ ?_⟩
  ·rintro i ys σ H' x hx ⟨rfl,⟨ns,rfl,hnl⟩,v,w,u,rfl⟩
   have hil:=bq hx;obtain⟨q,rfl,hq,_,hi⟩:=aF hx;have tq:=hT.2 i q _ hq (D9 (by rw[<-hT.1];exact hi));refine df tq ?_;dsimp only[E4];nofun;exact Om hil ⟨rfl,⟨ns++[_],by rw[Ef];rfl,by simp[hnl]⟩,_,_,_,rfl⟩
  rintro ys σ H2 ⟨rfl,⟨ns,rfl,hnl⟩,v,w,u,rfl⟩ z hz;obtain⟨H3,e9,s2,tz⟩:=nwR hz (.lst (ns.map Og));rw[e9];nofun;refine f7 (Oe tz) ?_;nofun;refine⟨ax (by simp),λt2 ht2=>?_⟩;have to3:=s2 _ _ to;exact k t2 o os _ _ ((s1.trans s2).free ht2) hon ((s1.trans s2).new ht2) af (by rw[ar (aj to3 ht2)];exact to3) hO
def Cy(K:Ec)(t:Ad):V->Sp->Prop:=λv sp=>(v=.ref (t.f 42)/\sp=eW)\/(v=.ref (t.f 43)/\sp=eW)\/(v=.ref (t.f 44)/\sp=eW)
theorem D0{α β γ δ ε ζ:Type}{G:Prop}{S B:α->β->γ->δ->ε->ζ->Hp->Prop}(hA:(∀a b c d e f H,S a b c d e f H->B a b c d e f H)->G)(hB:∀a b c d e f H,S a b c d e f H->B a b c d e f H):G:=hA hB
def PutAt(H:Hp)(us ys:List V)(os:List Nat):Prop:=ys.length=us.length/\∀(k o:Nat) z,os[k]? = some o->us[o]? = some z->∃y,ys[k]? = some y/\ThE H z y
theorem PutAt.same{H H':Hp}{us ys:List V}{os:List Nat}(h:PutAt H us ys os)(s:Same H H'):PutAt H' us ys os:=⟨h.1,λk o z a b=>by obtain⟨y,e,t⟩:=h.2 k o z a b;exact⟨y,e,t.same s⟩⟩
theorem KAt.th{H:Hp}{k:Kd}{us:List V}(h:KAt H k us):∀z∈us,Th H z:=λz hz=>by
 cases k with
 | nu ns=>
  obtain rfl:us=ns.map Og:=h;obtain⟨x,_,rfl⟩:=EC.mp hz;exact .inl (.inr (.inr (.inl ⟨x,rfl⟩)))
 | te zs=>
  obtain rfl:us=zs.map Oh:=h;obtain⟨x,_,rfl⟩:=EC.mp hz;exact .inl (.inr (.inr (.inr ⟨x,rfl⟩)))
 | pa tb=>
  obtain⟨qs,rfl,hP⟩:=h;obtain⟨q,hq,rfl⟩:=EC.mp hz;obtain⟨i,hi,rfl⟩:=GY hq;have e:=hP.2 i qs[i] (tb[i]'(by rw[<-hP.1];exact hi)) (D9 hi) (D9 (by rw[<-hP.1];exact hi));exact .inr ⟨qs[i],_,rfl,e,by simp,by simp,λx hx=>by
   simp only[EA,EZ,or_false]at hx;rcases hx with rfl|rfl<;>exact .inr (.inr (.inl ⟨_,rfl⟩))⟩
def Cz (K:Ec):Sp:=λvs H Q _=>∃(way:Str) (k:Kd) (us:List V) (a:Addr) (b:Nat),vs=[.str way,.str k.name,.ref a,.int b]/\(way = "last"\/way = "first"\/way = "runs")/\H a=some (.lst us)/\KAt H k us/\k.ok/\2<=b/\b<=64/\
 ∀(t l o:Addr) (os:List Nat) (ys:List V) (m:Int) (rss:List (List Nat)) (w by':Nat) H',Same H H'->H' t=some (.tup [.ref l,.ref o,.int m])->H' o=some (.lst (NV os))->H' l=some (.lst ys)->PutAt H' us ys os->k.rows b rss w by'->OrdR rss os->Q (.ref t) H'
theorem n6 (T:Tx K mg t):FnOk P t.wd K mg base CX0 5 (t.f 47) (t.d 47) ["way","kind","keys","base"] (Cz K):=by
 refine okT (N:=["way","kind","keys","base","by","rows","done","order","moves","told"]) (T.fn 47 rfl) (λH Q hr nd h=>?_)
 ·obtain⟨way,k,us,a,b,rfl,hway,ta,hA,hk,hb,hb2,q⟩:=h
  refine⟨_,(ae (cv (aA (nY T) hr (T.fn 36 rfl) (ah (qv 1) (ah (qv 2) (ah (qv 3) aa)))) (bo (K:=K) (n:=2) rfl (ao (ay (i:=4)) (ao (ay (i:=5)) aQ))))
   (ae (aD (i:=6) (aJ (zK T.uc) (bN (v:=.ref t.iG) rfl T.Ay rfl) (qv 0)))
   (ae (cv (mO (R:=Cy K t) (qv 6) (λv sp h=>by
     rcases h with⟨rfl,rfl⟩|⟨rfl,rfl⟩|⟨rfl,rfl⟩
     ·exact⟨_,_,_,_,_,rfl,kq T,hr.mono (by decide),(T.fn 42 rfl).2.1.kp,(T.fn 42 rfl).2.2,jI⟩
     ·exact⟨_,_,_,_,_,rfl,jg T,hr.mono (by decide),(T.fn 43 rfl).2.1.kp,(T.fn 43 rfl).2.2,jI⟩
     ·exact⟨_,_,_,_,_,rfl,kr T,hr.mono (by decide),(T.fn 44 rfl).2.1.kp,(T.fn 44 rfl).2.2,jI⟩) (ah (qv 5) (ah (qv 4) aa))) (bo (K:=K) (n:=2) rfl (ao (ay (i:=7)) (ao (ay (i:=8)) aQ))))
   (ae (aD (i:=9) (aA (zV T) hr (T.fn 14 rfl) (ah (qv 2) (ah (qv 7) aa))))
   (ae (a8 (av fz (qv 1) aB (aw _)) (ai (iT (i:=9) (N:=["key"]) (tgs:=["key"]) (frs:=[]) (ix:=[])  nd rfl (GM rfl) ⟨rfl,by decide +kernel,rfl,by decide +kernel,rfl,rfl,Ek,Ek,rfl⟩ rfl (aI (K:=K) (qv 9)) (λ_ _ _ _=>(ay (i:=0))) (λ_ _ _ _=>(aM (cM (K:=K)) (by rfl) T.bT bR (ah (qv 0) aa))))) aG)
   (ai (au (aU (ah (qv 9) (ah (qv 7) (ah (qv 8) aa))))))))))),?_⟩
  dsimp only[st0];nofun;refine⟨k,us,a,b,rfl,.inl ta,hA,hk,hb,hb2,λp0 l ps rss w by' H1 s1 tt tl hR hr=>?_⟩;obtain⟨hG,hrl,hw,hby⟩:=hr.good hk hb hb2;have hrn:rss.length<=60:=by rw[hrl];exact hk.le
  have hul:us.length=rss.length:=hA.len.trans hrl.symm;refine aY tt ?_;have hW:Rws H1 l rss w by':=⟨⟨ps,tl,hR⟩,hG,hrn,hw,hby⟩;nofun;apply D0 (S:=λ(z o:Addr) (os:List Nat) (m:Int) (_ _:V) H2=>Same H1 H2/\H2 z=some (.tup [.ref o,.int m])/\H2 o=some (.lst (NV os))/\OrdR rss os);case hA=>
   intro key;obtain⟨w2,e2⟩:∃w2,w2=way:=⟨_,rfl⟩
   rw[<-e2];have h2:w2 = "last"\/w2 = "first"\/w2 = "runs":=e2▸hway;clear e2;rcases h2 with rfl|rfl|rfl
   ·refine⟨_,_,rfl,rfl,rfl,?_⟩
    nofun;refine⟨eW,.inl ⟨rfl,rfl⟩,?_⟩;nofun;refine⟨l,rss,w,by',rfl,hW,λz o os m H2 _ _ s2 tz to hO=>?_⟩;generalize Oi (t.f 42)=vd;generalize Oh (EU "last")=vw;exact key z o os m vd vw H2 ⟨s2,tz,to,hO⟩
   ·refine⟨_,_,rfl,rfl,rfl,?_⟩
    nofun;refine⟨eW,.inr (.inl ⟨rfl,rfl⟩),?_⟩;nofun;refine⟨l,rss,w,by',rfl,hW,λz o os m H2 _ _ s2 tz to hO=>?_⟩;generalize Oi (t.f 43)=vd;generalize Oh (EU "first")=vw;exact key z o os m vd vw H2 ⟨s2,tz,to,hO⟩
   ·refine⟨_,_,rfl,rfl,rfl,?_⟩
    nofun;refine⟨eW,.inr (.inr ⟨rfl,rfl⟩),?_⟩;nofun;refine⟨l,rss,w,by',rfl,hW,λz o os m H2 _ _ s2 tz to hO=>?_⟩;generalize Oi (t.f 44)=vd;generalize Oh (EU "runs")=vw;exact key z o os m vd vw H2 ⟨s2,tz,to,hO⟩
  case hB=>
   rintro z o os m vd vw H2 ⟨s2,tz,to,hO⟩;refine aY tz ?_;dsimp only[E4];have s12:=s1.trans s2;have hos:Ord os us.length:=by rw[hul];exact Ord.of_perm hO.1
   nofun;refine⟨a,o,us,os,us.length,rfl,.inl (s12 _ _ ta),λz hz=>(hA.th z hz).same s12,rfl,.inl to,hos,by lia,λd ys H3 hd s3 td hyl hys=>?_⟩;have hPA:PutAt H3 us ys os:=⟨hyl,hys⟩;have s13:=s12.trans s3;have to3:=s3 _ _ to;nofun;have hyt:∀tb,k=.pa tb->∀y∈ys,∃u xs,y=.ref u/\H3 u=some (.tup xs):=λtb ek y hy=>by
    subst ek;obtain⟨i,hi,rfl⟩:=GY hy;have hio:i<os.length:=by rw[hos.len,<-hyl];exact hi
    have hoi:=hos.lt os[i] (Es hio);obtain⟨y',e1,e2⟩:=hys i os[i] us[os[i]] (D9 hio) (D9 hoi);rw[D9 hi]at e1;cases e1;obtain⟨qs,rfl,_⟩:=hA;rcases e2 with⟨e3,_⟩|⟨_,u,xs,_,e4,_,e5,_⟩
    ·have e6:(qs.map Oi)[os[i]]=Oi (qs[os[i]]'(by simpa using hoi)):=Hu ..
     rw[e6]at e3;rcases e3 with e3|⟨_,e3⟩|⟨_,e3⟩|⟨_,e3⟩<;>cases e3
    ·exact⟨u,xs,e4,e5⟩
   apply wt (α:=Addr) (S:=λc H4=>Same H3 H4/\H4 c=some (.lst ys));case hA=>
    intro key;obtain⟨k2,e2⟩:∃k2,k2=k:=⟨_,rfl⟩
    rw[<-e2];cases k2 with
    | nu ns=>
     refine dQ (show ¬Oh (EU "number")=Oh (EU "part")by decide) ?_;nofun;generalize h8:d=d9;generalize h9:H3=H9;exact key d9 H9 ⟨h9▸Oj _,h8▸h9▸td⟩
    | te zs=>
     refine dQ (show ¬Oh (EU "text")=Oh (EU "part")by decide) ?_;nofun;generalize h8:d=d9;generalize h9:H3=H9;exact key d9 H9 ⟨h9▸Oj _,h8▸h9▸td⟩
    | pa tb=>
     refine jL rfl ?_;nofun;refine⟨d,rfl,⟨_,Oe td⟩,aN (a:=d) (vs:=ys) (λi zs σ H'=>H3=H'/\i<=ys.length/\zs=ys.take i/\∃v,σ=[v]) (by rw[hyl];exact aq ⋯) (λi zs σ H' h=>by rw[h.2.2.1,EI];lia) (λi zs σ H' h=>by rw[<-h.1];exact Oe td) ⟨rfl,Eo _,rfl,none,rfl⟩ ?_ ?_⟩
     ·rintro i zs σ H' x hx ⟨rfl,_,rfl,v,rfl⟩
      have hil:=bq hx;obtain⟨u,xs,rfl,tu⟩:=hyt tb e2.symm x (Ez hx);nofun;refine⟨u,_,rfl,.inr ⟨Of tu,?_⟩⟩;exact Om hil ⟨rfl,hil,by rw[Em,hx];rfl,_,rfl⟩
     rintro zs σ H4 ⟨rfl,_,rfl,v,rfl⟩ c hc;rw[Ee (Ed _)];obtain⟨H5,e9,sc,tc⟩:=nwR hc (.lst ys);rw[e9];nofun;exact key c H5 ⟨sc,tc⟩
   case hB=>
    rintro c H4 ⟨s4,tc⟩;nofun;refine⟨ax (by simp),λe he=>?_⟩;exact q e c o os ys m rss w by' _ ((s13.trans s4).new he) af (by rw[ar (aj (s4 _ _ to3) he)];exact s4 _ _ to3) (by rw[ar (aj tc he)];exact tc) ((hPA.same s4).same ((Oj _).new he)) hr hO
theorem tI(h:n<=5000):n+2<=Oo:=by rw[Os];lia
theorem lN{H:Hp}(h:Q (.bl (!decide (Oh x=Oh y))) H):rNe (.str x) (.str y) H Q:=⟨rfl,h⟩
noncomputable def iC(w g:Str):Bool:=(w.cps.toList.map λc=>Hb g ⟨#[c]⟩).all id
noncomputable def hd0(z:Str):Str:=⟨#[z.cps.toList.getD 0 0]⟩
noncomputable def jh (w:Str):Bool:=if(Ff w "-").length<1\/18<(Ff w "-").length\/iC (Ff w "-") "0123456789" = false then false else(decide (¬hd0 (Ff w "-") = "0") || decide (w = "0"))
noncomputable def xr (t:Ad):List (Str×Addr):=[("number",(t.f 50)),("part",(t.f 51)),("text",(t.f 52))]
noncomputable def n8 (w:Str):Bool:=w == "number" || (w == "part" || w == "text")
theorem qw(t:Ad)(w:Str):((xr t).lookup w).isSome=n8 w:=by
 unfold xr n8;rw[E8,E8,E8];cases(w == ("number" : Str))<;>cases(w == ("part" : Str))<;>cases(w == ("text" : Str))<;>rfl
def Aa:Sp:=λvs H Q _=>∃w g:Str,vs=[.str w,.str g]/\w.length<=1000/\∀H',Same H H'->Q (.bl (iC w g)) H'
theorem eX (T:Tx K mg t):FnOk P t.wd K mg base CX0 1 (t.f 48) (t.d 48) ["word","signs"] Aa:=by
 refine okT (N:=["word","signs"]) (T.fn 48 rfl) (λH Q hr nd h=>?_)
 ·obtain⟨w,g,rfl,hw,k⟩:=h
  refine⟨_,(ai (au (ak (uB (K:=K) rfl) (by rfl) T.qQ uS (ah (aS (N:=["sign","signs"]) (tgs:=["sign"]) (frs:=["signs"]) (ix:=[1]) ⟨rfl,by decide +kernel,rfl,by decide +kernel,rfl,rfl,⟨⟨rfl,rfl,_,rfl,rfl⟩,Ek⟩,⟨rfl,Ek⟩,rfl⟩ rfl (uL (qv 0)) (λ_ _ _ _=>(ay (i:=0))) (λ_ _ _ _=>(c6 zN (qv 0) (qv 1) rfl))) aa)))),?_⟩;dsimp only[st0];nofun;refine⟨w,rfl,iU (n:=w.cps.size) (λi ys σ H'=>H=H'/\ys=((w.cps.toList.take i).map λc=>Hb g ⟨#[c]⟩).map V.bl/\i<=w.cps.size/\∃v,σ=[v,some (Oh g)]) (aq hw) (λi ys σ H' h=>by obtain⟨_,rfl,hi,_⟩:=h;simp;lia) ⟨rfl,rfl,Eo _,none,rfl⟩ (λi ys σ H' hi h=>hi) (λys σ H' h=>rfl) ?_ ?_⟩
  ·rintro i x ys σ H1 H2 hi ⟨rfl,rfl,_,v,rfl⟩ ⟨rfl,c,hc,rfl⟩
   nofun;refine⟨_,_,rfl,rfl,?_⟩;refine Om hi ⟨rfl,?_,hi,_,rfl⟩;have ec:w.cps.toList[i]? = some c:=by rw[GL];exact hc
   rw[Em,ec,Ef,Ef];rfl
  ·rintro ys σ H1 ⟨rfl,rfl,_,v,rfl⟩ a ha
   rw[Ee (by simp)];have s1:=(Oj H).new (o:=.lst ((w.cps.toList.map λc=>Hb g ⟨#[c]⟩).map V.bl)) ha;refine uz (Oe af) ?_;nofun;exact k _ s1
def xt:Sp:=λvs H Q _=>∃w:Str,vs=[.str w]/\w.length<=1000/\∀H',Same H H'->Q (.bl (jh w)) H'
theorem tJ{w p:Str}(h:w.length<=1000):(Ff w p).length<=1000:=by
 rw[Hj];split
 ·show(EX _).size<=_
  rw[Et,EI,Ft];lia
 ·exact h
theorem ku (T:Tx K mg t):FnOk P t.wd K mg base CX0 2 (t.f 49) (t.d 49) ["word"] xt:=by
 refine okT (N:=["word","size"]) (T.fn 49 rfl) (λH Q hr nd h=>?_)
 ·obtain⟨w,rfl,hw,k⟩:=h
  have hl:=tJ (p:="-") hw;unfold jh at k;refine⟨_,(ae (aD (i:=1) (wU (K:=K) (qv 0) (ah aB aa)))
   (ae (a8 (Ol (c7 (av pe (ak b5 (by rfl) T.bg aK (ah (qv 1) aa)) ag (aw _)) (c7 (av lp (ak b5 (by rfl) T.bg aK (ah (qv 1) aa)) (bN (v:=.int 18) rfl T.g7 ⟨_,rfl⟩) (aw _)) (di (cL (ck (aA (eX T) hr (T.fn 48 rfl) (ah (qv 1) (ah (bN (v:=.str "0123456789") rfl T.qO ⟨_,rfl⟩) aa))))))))) (ai (au iS)) aG)
   (ai (au (BX (c6 zd (aJ wN (qv 1) ag) aB (aw _)) (mf (c6 fz (qv 0) aB (aw _)))))))),?_⟩
  dsimp only[st0];nofun;refine⟨rfl,?_⟩;nofun;refine⟨_,_,rfl,rfl,by rw[Os];lia,?_⟩;generalize Ff w "-" = z at hl k;nofun;refine⟨z,rfl,by rw[Os];lia,?_⟩;nofun;refine aP (λg=>?_) (λg=>?_)
  ·nofun
   have k:=k H (Oj _);rw[if_pos (.inl ⋯)]at k;exact k
  nofun;refine⟨z,rfl,by rw[Os];lia,?_⟩;nofun;refine aP (λg2=>?_) (λg2=>?_)
  ·nofun
   have k:=k H (Oj _);rw[if_pos (.inr (.inl ⋯))]at k;exact k
  nofun;refine⟨z,_,rfl,hl,λH1 s1=>?_⟩;have k:=k H1 s1;cases hm:iC z "0123456789" with
  | false=>
   nofun;rw[if_pos (.inr (.inr hm))]at k;exact k
  | true=>
   rw[if_neg (by rintro(q|q|q)<;>first|lia|(rw[hm]at q;cases q))]at k;nofun;have hz1:0<z.cps.toList.length:=by
    rw[E7];show 0<z.length;lia
   refine⟨z,0,_,rfl,rfl,by rw[Os];lia,aT (j:=0) (show z.cps.toList[0]? = some (z.cps.toList.getD 0 0)by rw[Eb,D9 hz1];rfl),?_⟩;nofun;show rNe (.str (hd0 z)) _ _ _
   refine lN ?_;by_cases q:hd0 z = "0"
   ·rw[decide_eq_true (congrArg Oh q)]
    nofun;rw[decide_eq_false (λz=>z q),Ka]at k;have e:decide (Oh w=Oh "0")=decide (w = "0"):=by
     by_cases z:w = "0"
     ·rw[decide_eq_true z,decide_eq_true (congrArg Oh z)]
     ·rw[decide_eq_false z,decide_eq_false λu=>z (Oh.inj u)]
    rw[e];exact k
   ·rw[decide_eq_false λu=>q (Oh.inj u)]
    nofun;rw[decide_eq_true q,Kr]at k;exact k
noncomputable def gZ(w:Str):Option Int:=if jh w=true then intText? w else none
def lO:Sp:=λvs H Q _=>∃w:Str,vs=[.str w]/\w.length<=600/\(jh w=true->(intText? w).isSome=true)/\∀H',Same H H'->(gZ w=none->Q .non H')/\∀n,gZ w=some n->Q (.int n) H'
theorem cg (T:Tx K mg t):FnOk P t.wd K mg base CX0 3 (t.f 50) (t.d 50) ["word"] lO:=by
 refine okT (N:=["word"]) (T.fn 50 rfl) (λH Q hr nd h=>?_)
 ·obtain⟨w,rfl,hw,hi,k⟩:=h
  refine⟨_,(ae (a8 (cL (ck (aA (ku T) hr (T.fn 49 rfl) (ah (qv 0) aa)))) (ai (au bW)) aG)
   (ai (au (aM wR (by rfl) T.kN kh (ah (qv 0) aa))))),?_⟩
  dsimp only[st0];nofun;refine⟨w,rfl,by lia,λH1 s1=>?_⟩;obtain⟨k1,k2⟩:=k H1 s1;unfold gZ at k1 k2;cases hn:jh w with
  | false=>
   nofun;exact k1 (by rw[if_neg (by rw[hn];decide)])
  | true=>
   nofun;obtain⟨n,e⟩:=Gs.mp (hi hn);exact⟨w,n,rfl,e,by lia,k2 n (by rw[if_pos hn];exact e)⟩
def xu:Sp:=λvs H Q _=>∃w:Str,vs=[.str w]/\Q (.bl (n8 w)) H
theorem n9 (T:Tx K mg t):FnOk P t.wd K mg base CX0 1 (t.f 53) (t.d 53) ["word"] xu:=by
 refine okT (N:=["word"]) (T.fn 53 rfl) (λH Q hr nd h=>?_)
 ·obtain⟨w,rfl,k⟩:=h
  refine⟨_,(ai (au (c6 (zO T.gO T.dN) (qv 0) (bN (v:=.ref t.bS) rfl T.kM rfl) rfl))),?_⟩;dsimp only[st0];nofun;refine⟨w,rfl,rfl,?_⟩;have e:=qw t w;unfold xr at e;rw[e];exact k
noncomputable def rdK(ws:List Str):Option (Str×Int):=
 if ws.length=3/\ws.getD 0 "" = "kind"/\n8 (ws.getD 1 "")=true then(match gZ (ws.getD 2 "")with
  | none=>none
  | some b=>if b<2\/64<b then none else some (ws.getD 1 "",b))
 else none
def okK (ws:List Str):Prop:=ws.length<=200/\(∀w∈ws,w.length<=600)/\(ws.length=3->jh (ws.getD 2 "")=true->(intText? (ws.getD 2 "")).isSome=true)
def CA:Sp:=λvs H Q _=>∃(a:Addr) (ws:List Str),vs=[.ref a]/\H a=some (.lst (ws.map Oh))/\okK ws/\(rdK ws=none->∀H',Same H H'->Q .non H')/\∀(x:Addr) (k:Str) (b:Int) H',Same H H'->rdK ws=some (k,b)->H' x=some (.tup [.str k,.int b])->Q (.ref x) H'
theorem iD {ws:List Str}(h:i<ws.length):(ws.map Oh)[i]? = some (Oh (ws.getD i "")):=by
 rw[Eh,Eb,D9 h];rfl
theorem mU {ws:List Str}(h:i<ws.length):ws.getD i ""∈ws:=by
 rw[Eb,D9 h];exact Es h
theorem kv (T:Tx K mg t):FnOk P t.wd K mg base CX0 4 (t.f 74) (t.d 74) ["words"] CA:=by
 refine okT (N:=["words","base"]) (T.fn 74 rfl) (λH Q hr nd h=>?_)
 ·obtain⟨a,ws,rfl,ta,⟨hl,hw,hi⟩,k0,k⟩:=h
  refine⟨_,(ae (a8 (Ol (c7 (av zd (ak (aV (K:=K)) (by rfl) T.bg aK (ah (qv 0) aa)) ag (aw _)) (c7 (av zd (aJ (a9 (K:=K)) (qv 0) ag) aB (aw _)) (di (cL (ck (aA (n9 T) hr (T.fn 53 rfl) (ah (aJ (a9 (K:=K)) (qv 0) ag) aa)))))))) (ai (au bW)) aG)
   (ae (aD (i:=1) (aA (cg T) hr (T.fn 50 rfl) (ah (aJ (a9 (K:=K)) (qv 0) ag) aa)))
   (ae (a8 (Ol (c7 (av lr (qv 1) bW (aw _)) (c7 (av pe (qv 1) (bN (v:=.int 2) rfl T.kL ⟨_,rfl⟩) (aw _)) (di (av lp (qv 1) (bN (v:=.int 64) rfl T.lX ⟨_,rfl⟩) (aw _)))))) (ai (au bW)) aG)
   (ai (au (aU (ah (aJ (a9 (K:=K)) (qv 0) ag) (ah (qv 1) aa)))))))),?_⟩
  dsimp only[st0];nofun;refine aE (Oe ta) ?_;rw[Ea];nofun;by_cases h3:ws.length=3
  rotate_left
  ·rw[decide_eq_false (show ¬Og ((ws.length:Nat):Int)=Og 3 from λz=>h3 (by have:=Og.inj z;lia))]
   nofun;refine k0 ?_ H (Oj _);unfold rdK;rw[if_neg λz=>h3 z.1]
  rw[decide_eq_true (show Og ((ws.length:Nat):Int)=Og 3 by rw[h3];rfl)];nofun;refine bz (Oe ta) (v:=Oh (ws.getD 0 "")) (aT (j:=0) (iD ⋯)) ?_;nofun;refine lN ?_;by_cases hk:ws.getD 0 "" = "kind"
  rotate_left
  ·rw[decide_eq_false λu=>hk (Oh.inj u)]
   nofun;refine k0 ?_ H (Oj _);unfold rdK;rw[if_neg λz=>hk z.2.1]
  rw[decide_eq_true (congrArg Oh hk)];nofun;refine bz (Oe ta) (v:=Oh (ws.getD 1 "")) (aT (j:=1) (iD ⋯)) ?_;nofun;refine⟨_,rfl,?_⟩;cases hq:n8 (ws.getD 1 "")with
  | false=>
   nofun;refine k0 ?_ H (Oj _);unfold rdK;rw[if_neg λz=>by rw[hq]at z;cases z.2.2]
  | true=>
   nofun;refine bz (Oe ta) (v:=Oh (ws.getD 2 "")) (aT (j:=2) (iD ⋯)) ?_;nofun;refine⟨_,rfl,hw _ (mU ⋯),hi h3,λH1 s1=>⟨λe=>?_,λn e=>?_⟩⟩
   ·nofun
    refine k0 ?_ H1 s1;unfold rdK;rw[if_pos ⟨h3,hk,hq⟩,e]
   ·nofun
    rw[decide_eq_false (show ¬Og n=V.non from λz=>nomatch z)];nofun;refine aP (λg=>?_) (λg=>?_)
    ·nofun
     refine k0 ?_ H1 s1;unfold rdK;rw[if_pos ⟨h3,hk,hq⟩,e];exact if_pos (.inl g)
    nofun;refine aP (λg2=>?_) (λg2=>?_)
    ·nofun
     refine k0 ?_ H1 s1;unfold rdK;rw[if_pos ⟨h3,hk,hq⟩,e];exact if_pos (.inr g2)
    nofun;refine bz (Oe (s1 _ _ ta)) (v:=Oh (ws.getD 1 "")) (aT (j:=1) (iD ⋯)) ?_;nofun;refine⟨ax (by simp),λx hx=>?_⟩;refine k x _ _ _ (s1.new hx) ?_ af;unfold rdK;rw[if_pos ⟨h3,hk,hq⟩,e];exact if_neg ⋯
theorem bO(h:x.cps.toList=y.cps.toList):x=y:=Od (Lc.mp h)
noncomputable def dgs(m:Nat):List Nat:=(Ii 10 m).map L4
theorem fq(m:Nat):Jt (dgs m):=λc hc=>by
 obtain⟨ch,hch,e⟩:=EC.mp hc;have r:=M6 (Nat.isDigit_of_mem_toDigits (by decide) (by decide) hch);rw[<-e];exact r
theorem mV(m:Nat):dgs m≠[]:=by
 unfold dgs;intro e;exact Nat.toDigits_ne_nil (GZ.mp e)
theorem qx(h:m<10 ^ 18):(dgs m).length<=18:=by
 unfold dgs;rw[Ea];exact toDigits_len_pow (by decide) (by decide) h
theorem Ab:∀d:Nat,d<10->0<d->49<=(Nat.digitChar d).toNat:=by decide
theorem Ac(m:Nat)(h:0<m):∃c r,dgs m=c::r/\49<=c:=by
 induction m using Nat.strongRecOn with
 | _ m ih=>
  by_cases q:m<10
  ·exact⟨_,[],by unfold dgs;rw[Nat.toDigits_of_lt_base q];rfl,Ab m q h⟩
  ·have hm:m % 10<10:=Ig m (by decide)
   have t:Ii 10 (m / 10)++Ii 10 (m % 10)=Ii 10 (10*(m / 10)+m % 10):=Nat.toDigits_append_toDigits (by decide) ⋯ hm;rw[Nat.div_add_mod]at t;obtain⟨c,r,e,hc⟩:=ih (m / 10) ⋯ ⋯;refine⟨c,r++dgs (m % 10),?_,hc⟩;unfold dgs at e ⊢;rw[<-t,Ef,e];rfl
theorem c4(n:Int):(toString n:Str).cps.toList=if n<0 then 45::dgs n.natAbs else dgs n.natAbs:=by
 cases n with
 | ofNat m=>exact(Nm m).trans (by rw[if_neg (by simp)];rfl)
 | negSucc m=>
  rw[if_pos (Int.negSucc_lt_zero m)];refine(signs_ofString _).trans ?_;show(("-"++Nat.repr (m+1)).toList).map L4=_
  rw[String.toList_append,Nat.toList_repr];rfl
theorem cF{n:Int}(h:n.natAbs<10 ^ 18):(toString n:Str).length<=19:=by
 have:=qx h;show(toString n:Str).cps.size<=19
 rw[<-E7,c4];split
 ·rw[EB];lia
 ·lia
theorem eY{n:Int}(h:n.natAbs<10 ^ 18):intText? (toString n:Str)=some n:=by
 have hl:=cF h;have hs:=c4 n;by_cases q:n<0
 ·rw[if_pos q]at hs
  rw[PySem.intText_neg hs (fq _) (mV _) ⋯];unfold dgs;rw[J8];congr 1;lia
 ·rw[if_neg q]at hs
  rw[PySem.intText_digits (by rw[hs];exact fq _) (by rw[hs];exact mV _) ⋯,hs];unfold dgs;rw[J8];congr 1;lia
theorem lP:("-" : Str)=⟨#[45]⟩:=by decide +kernel
theorem qy (h:x.cps.toList=45::cs):(Ff x "-").cps.toList=cs:=by
 have hz:x.length=cs.length+1:=by show x.cps.size=_;rw[<-E7,h];simp
 rw[Hj,if_pos ?_]
 ·rw[h,lP]
  show(Mj 1 (45::cs)).take (x.length - 1)=cs
  rw[hz];simp
 ·rw[Lo,h,lP]
  have:(0+(⟨#[45]⟩:Str).length<=x.length):=by rw[hz];show 0+1<=_;lia
  rw[decide_eq_true this];rfl
theorem qz (h:∀cs,x.cps.toList≠45::cs):Ff x "-" = x:=by
 rw[Hj,if_neg ?_];rw[Lo,lP];intro q;have q2:=(Fu _ _▸q).2;have q3:x.cps.toList.take 1=[45]:=eq_of_beq q2;cases e:x.cps.toList with
 | nil=>rw[e]at q3;cases q3
 | cons c cs=>
  rw[e]at q3;have:c=45:=by simpa using q3
  subst this;exact h cs e
theorem tK (n:Int):(Ff (toString n:Str) "-").cps.toList=dgs n.natAbs:=by
 have hs:=c4 n;by_cases q:n<0
 ·rw[if_pos q]at hs;exact qy hs
 ·rw[if_neg q]at hs
  rw[qz λcs e=>?_,hs];rw[hs]at e;have:=fq n.natAbs 45 (by rw[e];exact EL ..);lia
theorem Ae:∀c,48<=c->c<=57->Hb ("0123456789" : Str) ⟨#[c]⟩=true:=λc h1 h2=>by
 have:∀k,k<10->Hb ("0123456789" : Str) ⟨#[48+k]⟩=true:=by decide +kernel
 have:=this (c - 48) ⋯
 rwa [show 48+(c - 48)=c by lia]at this
theorem qA {w:Str}(h:Jt w.cps.toList):iC w "0123456789" = true:=by
 unfold iC;rw[Gu];intro x hx;obtain⟨c,hc,rfl⟩:=EC.mp hx;exact Ae c (h c hc).1 (h c hc).2
theorem Af{n:Int}(h:n.natAbs<10 ^ 18):jh (toString n:Str)=true:=by
 have hr:=tK n;have hl:=qx h;have hp:=Fn.mpr (mV n.natAbs);have hz:(Ff (toString n:Str) "-").length=(dgs n.natAbs).length:=by
  show(Ff (toString n:Str) "-").cps.size=_
  rw[<-E7,hr]
 unfold jh;rw[qA (by rw[hr];exact fq _),hz,if_neg (λq=>by rcases q with q|q|q<;>first|lia|cases q)];rcases ID n.natAbs with z|z
 ·obtain rfl:n=0:=by lia
  decide +kernel
 ·obtain⟨c,r,e,hc⟩:=Ac _ z
  have:¬hd0 (Ff (toString n:Str) "-") = "0":=by
   unfold hd0;rw[hr,e,show("0" : Str)=⟨#[48]⟩by decide +kernel];intro q;have:=congrArg (λs:Str=>s.cps.toList) q;have:c=48:=by simpa using this
   lia
  rw[decide_eq_true this];rfl
theorem cq{n:Int}(h:n.natAbs<10 ^ 18):gZ (toString n:Str)=some n:=by
 unfold gZ;rw[if_pos (Af h),eY h]
theorem xw{a b:Str}(h:x.cps.toList=a.cps.toList++c::b.cps.toList)(hf:c∉a.cps.toList):FE x ⟨#[c]⟩=(a,⟨#[c]⟩,b):=by
 have at':∀i,StrLaws.At x ⟨#[c]⟩ x.length i↔x.cps.toList[i]? = some c:=λi=>K0 x c i
 have hz:x.length=a.cps.toList.length+1+b.cps.toList.length:=by show x.cps.size=_;rw[<-E7,h];simp;lia
 unfold FE;rcases Lp x ⟨#[c]⟩ 1 (Ed _)with⟨_,hn⟩|⟨i,r,e,hi,hn⟩
 ·exact absurd ((at' a.cps.toList.length).mpr (by rw[h];simp)) (hn _)
 ·have hi:=(at' i).mp hi
  have ei:i=a.cps.toList.length:=by
   rcases FG i a.cps.toList.length with q|q|q
   ·rw[h,Ep q]at hi
    exact absurd (Ez hi) hf
   ·exact q
   ·exact absurd ((at' a.cps.toList.length).mpr (by rw[h];simp)) (hn _ q)
  rw[e];refine N6 (bO ?_) (N6 rfl (bO ?_))
  ·show(KD x 0 i).cps.toList=_
   rw[JX,h,ei];simp
  ·show(KD x (i+1) x.length).cps.toList=_
   rw[JX,h,hz,ei];have:Mj (a.cps.toList.length+1) (a.cps.toList++c::b.cps.toList)=b.cps.toList:=by
    rw[List.drop_append];simp
   rw[this];exact Ee ⋯
theorem qB(hf:c∉x.cps.toList):FE x ⟨#[c]⟩=(x,Ge,Ge):=by
 unfold FE;rcases Lp x ⟨#[c]⟩ 1 (Ed _)with⟨e,_⟩|⟨i,r,_,hi,_⟩
 ·rw[e]
 ·exact absurd (Ez ((K0 x c i).mp hi)) hf
theorem mW:("/" : Str)=⟨#[47]⟩:=by decide +kernel
theorem mX(n:Int)(h1:c≠45)(h2:c<48\/57<c):c∉(toString n:Str).cps.toList:=λhc=>by
 rw[c4]at hc;have key:c∉dgs n.natAbs:=λz=>by have:=fq _ c z;lia
 split at hc
 ·rcases EA.mp hc with z|z
  ·exact h1 z
  ·exact key z
 ·exact key hc
theorem tL (n:Int):FE (toString n:Str) "/" = ((toString n:Str),Ge,Ge):=by
 rw[mW];exact qB (mX n (by decide) (by decide))
theorem tM (n m:Int):FE ((toString n:Str)++"/"++(toString m:Str)) "/" = ((toString n:Str),("/" : Str),(toString m:Str)):=by
 rw[mW];refine xw ?_ (mX n (by decide) (by decide));show(((toString n:Str).cps++#[47])++(toString m:Str).cps).toList=_
 simp
noncomputable def dA (n b:Int):Str:=if b=1 then(toString n:Str)else(toString n:Str)++"/"++(toString b:Str)
def fC(n b:Int):Prop:=n.natAbs<10 ^ 18/\1<=b/\b<=60/\F6 n.natAbs b.natAbs=1
theorem kx{n b:Int}(h:fC n b):(dA n b).length<=60:=by
 have h1:=cF h.1;have h2:(toString b:Str).length<=19:=cF (by have:=h.2.1;have:=h.2.2.1;lia);unfold dA;split
 ·lia
 ·rw[OA,OA];have:(("/" : Str)).length=1:=by decide +kernel
  lia
def ji:Sp:=λvs H Q _=>∃n b:Int,vs=[.str (dA n b)]/\fC n b/\∀x H',Same H H'->H' x=some (.tup [.int n,.int b])->Q (.ref x) H'
theorem kz (T:Tx K mg t):FnOk P t.wd K mg base CX0 4 (t.f 51) (t.d 51) ["word"] ji:=by
 refine okT (N:=["word","top_word","slash","bottom_word","top","bottom"]) (T.fn 51 rfl) (λH Q hr nd h=>?_)
 ·obtain⟨n,b,rfl,ho,k⟩:=h
  have hl:=kx ho;obtain⟨hn,h1,h2,hg⟩:=ho;refine⟨_,(ae (cv (wW (K:=K) (qv 0) (ah aB aa)) (bo (K:=K) (n:=3) rfl (ao (ay (i:=1)) (ao (ay (i:=2)) (ao (ay (i:=3)) aQ)))))
   (ae (aD (i:=4) (aA (cg T) hr (T.fn 50 rfl) (ah (qv 1) aa)))
   (ae (a8 (av lr (qv 4) bW (aw _)) (ai (au bW)) aG)
   (ae (a8 (av fz (qv 2) aB (aw _)) (ai (au (aU (ah (qv 4) (ah ag aa))))) aG)
   (ae (aD (i:=5) (aA (cg T) hr (T.fn 50 rfl) (ah (qv 3) aa)))
   (ae (a8 (Ol (c7 (av lr (qv 5) bW (aw _)) (c7 (av pe (qv 5) ag (aw _)) (c7 (av lp (qv 5) (bN (v:=.int 60) rfl T.jr ⟨_,rfl⟩) (aw _)) (di (av lp (aA (b6 T) hr (T.fn 30 rfl) (ah (ak mj (by rfl) T.lZ mR (ah (qv 4) aa)) (ah (qv 5) aa))) ag (aw _))))))) (ai (au bW)) aG)
   (ai (au (aU (ah (qv 4) (ah (qv 5) aa))))))))))),?_⟩
  dsimp only[st0];nofun;refine⟨rfl,?_⟩;nofun;refine⟨_,_,rfl,rfl,by decide +kernel,by rw[Os];lia,λp hp=>?_⟩;have s0:=λo=>(Oj H).new (o:=o) hp
  by_cases hb:b=1
  ·rw[show FE (dA n b) "/" = ((toString n:Str),Ge,Ge)by unfold dA;rw[if_pos hb];exact tL n]
   dsimp only;refine df af ?_;nofun;refine⟨_,rfl,by have:=cF hn;lia,λ_=>by rw[eY hn];rfl,λH1 s1=>⟨λe=>absurd e (by rw[cq hn];exact λz=>nomatch z),λn1 e=>?_⟩⟩;obtain rfl:n=n1:=by rw[cq hn]at e;exact EE e
   nofun;rw[decide_eq_false (show ¬Og n=V.non from λz=>nomatch z)];nofun;rw[decide_eq_true (show Oh Ge=Oh "" from rfl)];nofun;subst hb;exact⟨by show 2<=Oo;decide,λa ha=>k a _ (((s0 _).trans s1).new ha) af⟩
  ·rw[show FE (dA n b) "/" = ((toString n:Str),("/" : Str),(toString b:Str))by unfold dA;rw[if_neg hb];exact tM n b]
   dsimp only;refine df af ?_;nofun;refine⟨_,rfl,by have:=cF hn;lia,λ_=>by rw[eY hn];rfl,λH1 s1=>⟨λe=>absurd e (by rw[cq hn];exact λz=>nomatch z),λn1 e=>?_⟩⟩;obtain rfl:n=n1:=by rw[cq hn]at e;exact EE e
   nofun;rw[decide_eq_false (show ¬Og n=V.non from λz=>nomatch z)];nofun;rw[decide_eq_false (show ¬Oh "/" = Oh "" from λz=>absurd (Oh.inj z) (by decide +kernel))];nofun;have hbn:b.natAbs<10 ^ 18:=by lia
   refine⟨_,rfl,by have:=cF hbn;lia,λ_=>by rw[eY hbn];rfl,λH2 s2=>⟨λe=>absurd e (by rw[cq hbn];exact λz=>nomatch z),λn2 e2=>?_⟩⟩;obtain rfl:b=n2:=by rw[cq hbn]at e2;exact EE e2
   nofun;rw[decide_eq_false (show ¬Og b=V.non from λz=>nomatch z)];nofun;refine aP (λg=>absurd g ⋯) (λ_=>?_);nofun;refine aP (λg=>absurd g ⋯) (λ_=>?_);nofun;have e1:(if n<0 then -n else n)=((n.natAbs:Nat):Int):=by split<;>lia
   have e2:b=((b.natAbs:Nat):Int):=by lia
   refine⟨n.natAbs,b.natAbs,by rw[e1];exact congrArg (λz=>[Og _,Og z]) e2,?_⟩;rw[hg];nofun;refine aP (λg=>absurd g ⋯) (λ_=>?_);nofun;exact⟨by show 2<=Oo;decide,λa ha=>k a _ ((((s0 _).trans s1).trans s2).new ha) af⟩
def iE (w:Str):Prop:=w.length<=20/\iC w "abcdefghijklmnopqrstuvwxyz" = true/\Ltr 30 w
noncomputable def tN (w:Str):Str:="'"++w
theorem jj(w:Str):(tN w).length=w.length+1:=by
 unfold tN;rw[OA,show(("'" : Str)).length=1 by decide +kernel];lia
theorem tO(w:Str):JA (tN w) (some 1) none=w:=by
 have hz:=jj w;rw[slice_from_eq (b:=((tN w).length:Int)) ⋯ ⋯ rfl,hz];refine bO ?_;show NW (((w.length+1:Nat):Int) - 1).toNat (Mj 1 ((("'" : Str).cps++w.cps).toList))=_
 rw[show(("'" : Str))=⟨#[39]⟩by decide +kernel,G0];show NW (((w.length+1:Nat):Int) - 1).toNat w.cps.toList=_
 refine Ee ?_;rw[E7];show w.length<=_
 lia
def jk:Sp:=λvs H Q _=>∃w:Str,vs=[.str (tN w)]/\iE w/\∀H',Same H H'->Q (.str w) H'
theorem kA (T:Tx K mg t):FnOk P t.wd K mg base CX0 2 (t.f 52) (t.d 52) ["word"] jk:=by
 refine okT (N:=["word","letters"]) (T.fn 52 rfl) (λH Q hr nd h=>?_)
 ·obtain⟨w,rfl,⟨hl,hm,_⟩,k⟩:=h
  refine⟨_,(ae (aD (i:=1) (bL zH (qv 0) (bE ag) fc))
   (ae (a8 (Ol (c7 (cL (ck (zS (K:=K) (qv 0) (ah aB aa)))) (c7 (av lp (ak b5 (by rfl) T.bg aK (ah (qv 1) aa)) (bN (v:=.int 20) rfl T.g8 ⟨_,rfl⟩) (aw _)) (di (cL (ck (aA (eX T) hr (T.fn 48 rfl) (ah (qv 1) (ah (bN (v:=.str "abcdefghijklmnopqrstuvwxyz") rfl T.qP ⟨_,rfl⟩) aa))))))))) (ai (au bW)) aG)
   (ai (au (qv 1))))),?_⟩
  dsimp only[st0];nofun;have hz:=jj w;refine⟨1,rfl,pz ?_⟩;refine⟨_,rfl,by rw[Os];lia,?_⟩;rw[tO];nofun;refine⟨rfl,?_⟩;nofun;refine⟨_,_,rfl,rfl,?_⟩;rw[show Mf (tN w) "'" = true from Nn _ _];nofun;refine⟨w,rfl,by rw[Os];lia,?_⟩;nofun;refine aP (λg=>absurd g ⋯) (λ_=>?_);nofun;refine⟨w,_,rfl,by lia,λH1 s1=>?_⟩;rw[hm];nofun;exact k H1 s1
inductive Ky where
 | num (n:Int)
 | par (n b:Int)
 | txt (w:Str)
noncomputable def Ky.word:Ky->Str
 | .num n=>(toString n:Str)
 | .par n b=>dA n b
 | .txt w=>tN w
noncomputable def Ky.ok(kd:Str):Ky->Prop
 | .num n=>kd = "number"/\n.natAbs<10 ^ 18
 | .par n b=>kd = "part"/\fC n b
 | .txt w=>kd = "text"/\iE w
noncomputable def Ky.at(H:Hp)(v:V):Ky->Prop
 | .num n=>v=.int n
 | .par n b=>∃q,v=.ref q/\H q=some (.tup [.int n,.int b])
 | .txt w=>v=.str w
theorem Ky.keep{H:Hp}{k:Ky}(h:k.at H v)(s:∀b xs,H b=some (.tup xs)->H' b=some (.tup xs)):k.at H' v:=by
 cases k with
 | num n=>exact h
 | par n b=>obtain⟨q,e,hq⟩:=h;exact⟨q,e,s _ _ hq⟩
 | txt w=>exact h
theorem Ky.some{H:Hp}{k:Ky}(h:k.at H v):¬v=V.non:=by
 cases k with
 | num n=>obtain rfl:v=.int n:=h;exact λz=>nomatch z
 | par n b=>obtain⟨q,rfl,_⟩:=h;exact λz=>nomatch z
 | txt w=>obtain rfl:v=.str w:=h;exact λz=>nomatch z
def KsW(H:Hp)(vs:List V)(ks:List Ky):Prop:=vs.length=ks.length/\∀(i:Nat) v k,vs[i]? = some v->ks[i]? = some k->k.at H v
theorem KsW.snoc{H:Hp}{ks:List Ky}{k:Ky}(h:KsW H vs ks)(e1:k.at H v):KsW H (vs++[v]) (ks++[k]):=by
 refine⟨by simp[h.1],λi v' k' a b=>?_⟩;by_cases hk:i<vs.length
 ·rw[Ep hk]at a
  rw[Ep (by rw[<-h.1];exact hk)]at b;exact h.2 i v' k' a b
 ·have e:i=vs.length:=by
   have:=(Ei.mp a).1;simp at this;lia
  subst e;rw[Ey (Ed _),Gy]at a;rw[Ey (by rw[h.1];exact Ed _),show vs.length - ks.length=0 by have:=h.1;lia]at b;cases a;cases b;exact e1
def Ag(K:Ec)(t:Ad):V->Sp->Prop:=λv sp=>(v=.ref (t.f 50)/\sp=lO)\/(v=.ref (t.f 51)/\sp=ji)\/(v=.ref (t.f 52)/\sp=jk)
theorem tP (K:Ec) (t:Ad) (h:kd = "number"\/kd = "part"\/kd = "text"):∃f sp,(xr t).lookup kd=some f/\Ag K t (.ref f) sp/\∀(k:Ky) (H:Hp) (Q:VK),k.ok kd->(∀v H',Same H H'->k.at H' v->Q v H')->sp [.str k.word] H Q E0:=by
 rcases h with rfl|rfl|rfl
 ·refine⟨(t.f 50),lO,by unfold xr;rw[E8,beq_self_eq_true],.inl ⟨rfl,rfl⟩,λk H Q hk q=>?_⟩
  cases k with
  | num n=>
   have hn:=hk.2;refine⟨_,rfl,by have:=cF hn;show(toString n:Str).length<=600;lia,λ_=>by show(intText? (toString n:Str)).isSome=true;rw[eY hn];rfl,λH1 s1=>⟨λe=>absurd e (by show ¬gZ (toString n:Str)=none;rw[cq hn];exact λz=>nomatch z),λn1 e=>?_⟩⟩;have e:gZ (toString n:Str)=Option.some n1:=e;rw[cq hn]at e;cases e;exact q _ _ s1 rfl
  | par n b=>exact absurd hk.1 (by decide +kernel)
  | txt w=>exact absurd hk.1 (by decide +kernel)
 ·refine⟨(t.f 51),ji,by unfold xr;rw[E8,show(("part" : Str) == "number")=false by decide +kernel,E8,beq_self_eq_true],.inr (.inl ⟨rfl,rfl⟩),λk H Q hk q=>?_⟩
  cases k with
  | num n=>exact absurd hk.1 (by decide +kernel)
  | par n b=>exact⟨n,b,rfl,hk.2,λx H1 s1 e=>q _ _ s1 ⟨x,rfl,e⟩⟩
  | txt w=>exact absurd hk.1 (by decide +kernel)
 ·refine⟨(t.f 52),jk,by unfold xr;rw[E8,show(("text" : Str) == "number")=false by decide +kernel,E8,show(("text" : Str) == "part")=false by decide +kernel,E8,beq_self_eq_true],.inr (.inr ⟨rfl,rfl⟩),λk H Q hk q=>?_⟩
  cases k with
  | num n=>exact absurd hk.1 (by decide +kernel)
  | par n b=>exact absurd hk.1 (by decide +kernel)
  | txt w=>exact⟨w,rfl,hk.2,λH1 s1=>q _ _ s1 rfl⟩
def Ai:Sp:=λvs H Q _=>∃(kd:Str) (a:Addr) (ks:List Ky),vs=[.str kd,.ref a]/\H a=some (.lst (ks.map λk=>Oh k.word))/\(kd = "number"\/kd = "part"\/kd = "text")/\(∀k∈ks,k.ok kd)/\ks.length<=200/\
 ∀(l:Addr) (us:List V) H',Same H H'->H l=none->H' l=some (.lst us)->KsW H' us ks->Q (.ref l) H'
theorem kB (T:Tx K mg t):FnOk P t.wd K mg base CX0 5 (t.f 54) (t.d 54) ["kind","words"] Ai:=by
 refine okT (N:=["kind","words","read","keys","word","key"]) (T.fn 54 rfl) (λH Q hr nd h=>?_)
 ·obtain⟨kd,a,ks,rfl,ta,hkd,hok,hn,k⟩:=h
  obtain⟨f,sp,hf,hR,hsp⟩:=tP K t hkd;refine⟨_,(ae (aD (i:=2) (aJ (zK T.gO) (bN (v:=.ref t.bS) rfl T.kM rfl) (qv 0)))
   (ae (aD (i:=3) (aO aa))
   (ae (bX EM rfl (aI (K:=K) (qv 1)) (ay (i:=4)) (ae (aD (i:=5) (mO (R:=Ag K t) (qv 2) (λv sp h=>by
     rcases h with⟨rfl,rfl⟩|⟨rfl,rfl⟩|⟨rfl,rfl⟩
     ·exact⟨_,_,_,_,_,rfl,cg T,hr.mono (by decide),(T.fn 50 rfl).2.1.kp,(T.fn 50 rfl).2.2,jI⟩
     ·exact⟨_,_,_,_,_,rfl,kz T,hr.mono (by decide),(T.fn 51 rfl).2.1.kp,(T.fn 51 rfl).2.2,jI⟩
     ·exact⟨_,_,_,_,_,rfl,kA T,hr.mono (by decide),(T.fn 52 rfl).2.1.kp,(T.fn 52 rfl).2.2,jI⟩) (ah (qv 4) aa)))
   (ae (a8 (av lr (qv 5) bW (aw _)) (ai (au bW)) aG)
   (ai (bC (bf (K:=K) (qv 3) (ah (qv 5) aa)))))))
   (ai (au (qv 3)))))),?_⟩
  dsimp only[st0];nofun;refine⟨_,f,rfl,rfl,hf,?_⟩;nofun;refine⟨ax (by simp),λd hd=>?_⟩;obtain⟨H1,e9,s1,td⟩:=nwR hd (.lst []);rw[e9];nofun;refine⟨a,rfl,⟨_,Oe (s1 _ _ ta)⟩,cK (a:=a) (xs:=ks.map λk=>Oh k.word) (λi σ H'=>Same H H'/\(∃us:List V,H' d=some (.lst us)/\us.length=i/\KsW H' us (ks.take i))/\∃v1 v2,σ=[some (Oh kd),some (Oi a),some (Oi f),some (Oi d),v1,v2]) ⟨s1,⟨[],td,rfl,rfl,λi v k h=>by simp at h⟩,_,_,rfl⟩ (λi σ H' _ h=>Oe (h.1 _ _ ta)) ?_ ?_⟩
  ·rintro i x σ H2 hx ⟨s2,⟨us,td2,hul,hD⟩,v1,v2,rfl⟩
   obtain⟨q,ex,eq,_,hi⟩:=aF hx;subst ex;have hq:=hok q (Ez eq);nofun;refine⟨sp,hR,?_⟩;nofun;refine hsp q _ _ hq λv H3 s3 hv=>?_
   nofun;rw[decide_eq_false (Ky.some hv)];nofun;have td3:=s3 _ _ td2;refine⟨br td3,?_⟩;nofun;refine aW td3 (aq ⋯) ?_;have hdn:H d=none:=hd;have kt:∀b xs,H3 b=some (.tup xs)->(upd H3 d (.lst (us++[v]))) b=some (.tup xs):=λb xs e=>by
    rw[ar (λz=>by rw[z,td3]at e;cases e)];exact e
   nofun;refine⟨(s2.trans s3).own hdn,⟨us++[v],af,by simp[hul],?_⟩,_,_,rfl⟩;rw[Em,eq];exact KsW.snoc ⟨hD.1,λj w z a b=>Ky.keep (Ky.keep (hD.2 j w z a b) λb xs e=>s3 _ _ e) kt⟩ (Ky.keep hv kt)
  ·rintro σ H2 ⟨s2,⟨us,td2,hul,hD⟩,v1,v2,rfl⟩
   rw[Ea]at hD;rw[Ee (Ed _)]at hD;nofun;exact k d us H2 s2 hd td2 hD
theorem lQ{n:Int}(h:n.natAbs<10 ^ 18):n.natAbs.log2<1920:=by
 by_cases z:n.natAbs=0
 ·rw[z];decide
 ·exact(JF z).mpr (Ic h (by decide +kernel))
def tQ:Sp:=λvs H Q _=>∃(q:Addr) (n b:Int),vs=[.ref q]/\H q=some (.tup [.int n,.int b])/\fC n b/\Q (.str (dA n b)) H
theorem jl (T:Tx K mg t):FnOk P t.wd K mg base CX0 1 (t.f 55) (t.d 55) ["part"] tQ:=by
 refine okT (N:=["part","top","bottom"]) (T.fn 55 rfl) (λH Q hr nd h=>?_)
 ·obtain⟨q,n,b,rfl,hq,⟨hn,h1,h2,_⟩,k⟩:=h
  refine⟨_,(ae (cv (qv 0) (bo (K:=K) (n:=2) rfl (ao (ay (i:=1)) (ao (ay (i:=2)) aQ))))
   (ae (a8 (av fz (qv 2) ag (aw _)) (ai (au (aM gz (by rfl) T.fK eV (ah (qv 1) aa)))) aG)
   (ai (au (wX (qv 1) (qv 2)))))),?_⟩
  dsimp only[st0];nofun;refine aY hq ?_;dsimp only[E4];nofun;unfold dA at k;by_cases hb:b=1
  ·rw[decide_eq_true (congrArg Og hb)]
   rw[if_pos hb]at k;nofun;exact⟨n,rfl,lQ hn,k⟩
  ·rw[decide_eq_false λz=>hb (Og.inj z)]
   rw[if_neg hb]at k;nofun;refine⟨n,rfl,lQ hn,?_⟩;nofun;exact⟨b,rfl,lQ ⋯,k⟩
def xx:Sp:=λvs H Q _=>∃(kd:Str) (v:V) (k:Ky),vs=[.str kd,v]/\k.ok kd/\k.at H v/\Q (.str k.word) H
theorem kC (T:Tx K mg t):FnOk P t.wd K mg base CX0 2 (t.f 56) (t.d 56) ["kind","key"] xx:=by
 refine okT (N:=["kind","key"]) (T.fn 56 rfl) (λH Q hr nd h=>?_)
 ·obtain⟨kd,v,k,rfl,hk,hv,q⟩:=h
  refine⟨_,(ae (a8 (av fz (qv 0) aB (aw _)) (ai (au (aA (jl T) hr (T.fn 55 rfl) (ah (qv 1) aa)))) aG)
   (ae (a8 (av fz (qv 0) aB (aw _)) (ai (au (zT (qv 1)))) aG)
   (ai (au (aM (lF hr.gd hr.units) (by rfl) T.fK eV (ah (qv 1) aa)))))),?_⟩
  dsimp only[st0];nofun;cases k with
  | num n=>
   obtain⟨rfl,hn⟩:=hk;obtain rfl:v=.int n:=hv;rw[decide_eq_false (show ¬Oh "number" = Oh "part" from λz=>absurd (Oh.inj z) (by decide +kernel))];nofun;rw[decide_eq_false (show ¬Oh "number" = Oh "text" from λz=>absurd (Oh.inj z) (by decide +kernel))];nofun;exact⟨_,_,rfl,.int n (Ic hn (by decide +kernel)),q⟩
  | par n b=>
   obtain⟨rfl,hn⟩:=hk;obtain⟨p,rfl,hp⟩:=hv;rw[decide_eq_true (show Oh "part" = Oh "part" from rfl)];nofun;exact⟨p,n,b,rfl,hp,hn,q⟩
  | txt w=>
   obtain⟨rfl,hw⟩:=hk;obtain rfl:v=.str w:=hv;rw[decide_eq_false (show ¬Oh "text" = Oh "part" from λz=>absurd (Oh.inj z) (by decide +kernel))];nofun;rw[decide_eq_true (show Oh "text" = Oh "text" from rfl)];nofun;exact⟨w,rfl,by have:=hw.1;lia,q⟩
noncomputable def wrS (ws:List Str):Str:=if(GF " " ws).length=0 then "-" else GF " " ws
def xy:Sp:=λvs H Q _=>∃(a:Addr) (ws:List Str),vs=[.ref a]/\H a=some (.lst (ws.map Oh))/\ws.length<=200/\(ws.map (·.length)).sum+ws.length*1<=16777216/\(GF " " ws).length<=Oo/\∀H',Same H H'->Q (.str (wrS ws)) H'
theorem kD (T:Tx K mg t):FnOk P t.wd K mg base CX0 1 (t.f 58) (t.d 58) ["things"] xy:=by
 refine okT (N:=["things"]) (T.fn 58 rfl) (λH Q hr nd h=>?_)
 ·obtain⟨a,ws,rfl,ta,hn,hs,hj,k⟩:=h
  refine⟨_,(ai (au (uQ (K:=K) (jd (K:=K) aB (ah (aS (N:=["thing"]) (tgs:=["thing"]) (frs:=[]) (ix:=[]) ⟨rfl,by decide +kernel,rfl,by decide +kernel,rfl,rfl,Ek,Ek,rfl⟩ rfl (aI (K:=K) (qv 0)) (λ_ _ _ _=>(ay (i:=0))) (λ_ _ _ _=>(aM (lF hr.gd hr.units) (by rfl) T.fK eV (ah (qv 0) aa)))) aa)) (mf aB)))),?_⟩;dsimp only[st0];nofun;refine⟨rfl,?_⟩;nofun;refine⟨a,rfl,⟨_,Oe ta⟩,aN (a:=a) (vs:=ws.map Oh) (λi ys σ H'=>H=H'/\i<=ws.length/\ys=(ws.take i).map Oh/\∃v,σ=[v]) (aq (by rw[Ea];lia)) (λi ys σ H' h=>by rw[h.2.2.1];simp;lia) (λi ys σ H' h=>h.1▸Oe ta) ⟨rfl,Eo _,rfl,_,rfl⟩ ?_ ?_⟩
  ·rintro i ys σ H1 x hx ⟨rfl,hi,rfl,v,rfl⟩
   obtain⟨w,rfl,ew,_,hi2⟩:=aF hx;nofun;refine⟨_,_,rfl,.str w,?_⟩;nofun;exact Om (by rw[Ea];exact hi2) ⟨rfl,hi2,by rw[Em,ew,Ef];rfl,_,rfl⟩
  ·rintro ys σ H1 ⟨rfl,hi,rfl,v,rfl⟩ r hr
   rw[Ea,Ee (Ed _)];have k:=k _ ((Oj H).new (o:=.lst (ws.map Oh)) hr);unfold wrS at k;nofun;refine⟨_,r,ws,rfl,rfl,Oe af,hs,?_⟩;by_cases z:(GF " " ws).length=0
   ·rw[if_pos z]at k
    refine⟨false,⟨hj,by rw[z];rfl⟩,(λz=>nomatch z),λ_=>?_⟩;nofun;exact k
   ·rw[if_neg z]at k
    refine⟨true,⟨hj,by symm;simpa using z⟩,λ_=>?_,λz=>nomatch z⟩;nofun;exact k
theorem uW{c:Nat}:∀{x y r1 r2:List Nat},c∉x->c∉y->x++c::r1=y++c::r2->x=y/\r1=r2
 | [],[],_,_,_,_,h=>⟨rfl,(F7 h).2⟩
 | [],b::y,_,_,_,hy,h=>absurd (EA.mpr (.inl (F7 h).1)) hy
 | a::x,[],_,_,hx,_,h=>absurd (EA.mpr (.inl (F7 h).1.symm)) hx
 | a::x,b::y,_,_,hx,hy,h=>by
  obtain⟨e1,e2⟩:=F7 h;obtain⟨e3,e4⟩:=uW (λz=>hx (Eu _ z)) (λz=>hy (Eu _ z)) e2;exact⟨by rw[e1,e3],e4⟩
theorem dM(c:Nat)(x y:Str)(r:List Str):(GH ⟨#[c]⟩ (x::y::r)).cps.toList=x.cps.toList++c::(GH ⟨#[c]⟩ (y::r)).cps.toList:=by
 show(x++⟨#[c]⟩++GH ⟨#[c]⟩ (y::r)).cps.toList=_
 rw[Ij,Ij,G0,G0,Fi];rfl
theorem mY{c:Nat}:∀{xs ys:List Str},xs≠[]->ys≠[]->(∀x∈xs,c∉x.cps.toList)->(∀y∈ys,c∉y.cps.toList)->(GH ⟨#[c]⟩ xs).cps.toList=(GH ⟨#[c]⟩ ys).cps.toList->xs=ys
 | [],_,h,_,_,_,_=>absurd rfl h
 | _,[],_,h,_,_,_=>absurd rfl h
 | [x],[y],_,_,_,_,h=>by rw[bO (x:=x) (y:=y) h]
 | [x],y::z::r,_,_,hx,_,h=>by
  rw[dM]at h;refine absurd ?_ (hx x (EG.mpr rfl));rw[show x.cps.toList=_ from h];simp
 | x::z::r,[y],_,_,_,hy,h=>by
  rw[dM]at h;refine absurd ?_ (hy y (EG.mpr rfl));rw[show y.cps.toList=_ from h.symm];simp
 | x::x2::xs,y::y2::ys,_,_,hx,hy,h=>by
  rw[dM,dM]at h;obtain⟨e1,e2⟩:=uW (hx x (EL ..)) (hy y (EL ..)) h;rw[bO e1,mY (by simp) (by simp) (λz hz=>hx z (Eu _ hz)) (λz hz=>hy z (Eu _ hz)) e2]
theorem fu{rows:List Str}(h0:rows≠[])(h:∀r∈rows,c∉r.cps.toList):FV (GH ⟨#[c]⟩ rows) ⟨#[c]⟩=rows:=by
 refine mY (c:=c) (λz=>?_) h0 (StrLaws.split_free _ c) h (by rw[StrLaws.join_split]);have:=split_pos (GH ⟨#[c]⟩ rows) ⟨#[c]⟩;rw[z]at this;simp at this
theorem CB:("\n" : Str)=⟨#[10]⟩:=by decide +kernel
theorem oa:(" " : Str)=⟨#[32]⟩:=by decide +kernel
inductive Dd where
 | row (ks:List Ky)
 | pour (ks:List Ky)
 | ask (w:Str)
 | srt (w:Str)
noncomputable def askL:List Str:=["order","back","rings","ahead","cheapest","walk","puts","poured","heaps"]
noncomputable def wayL:List Str:=["last","first","runs"]
noncomputable def Dd.words:Dd->List Str
 | .row ks=>"row"::ks.map Ky.word
 | .pour ks=>"pour"::ks.map Ky.word
 | .ask w=>[w]
 | .srt w=>["sort",w]
noncomputable def Dd.ok(kd:Str):Dd->Prop
 | .row ks=>(∀k∈ks,k.ok kd)/\ks.length<=60
 | .pour ks=>(∀k∈ks,k.ok kd)/\ks.length<=60/\1<=ks.length
 | .ask w=>w∈askL
 | .srt w=>w∈wayL
noncomputable def Dd.many:Dd->Nat
 | .pour ks=>ks.length
 | _=>0
noncomputable def Dd.deed:Dd->Prop
 | .row _=>True
 | .pour _=>True
 | _=>False
noncomputable def DdV(H:Hp)(w:Str)(g:V):Dd->Prop
 | .row ks=>w = "row"/\∃l us,g=.ref l/\H l=some (.lst us)/\KsW H us ks
 | .pour ks=>w = "pour"/\∃l us,g=.ref l/\H l=some (.lst us)/\KsW H us ks
 | .ask a=>w=a/\g=.non
 | .srt a=>w = "sort"/\g=.str a
theorem KsW.same{H:Hp}{us:List V}{ks:List Ky}(h:KsW H us ks)(s:Same H H1):KsW H1 us ks:=⟨h.1,λi v k a b=>Ky.keep (h.2 i v k a b) λ_ _ e=>s _ _ e⟩
theorem DdV.same{H H1:Hp}{w:Str}{g:V}{d:Dd}(h:DdV H w g d)(s:Same H H1):DdV H1 w g d:=by
 cases d with
 | row ks=>obtain⟨a,l,us,b,c,e⟩:=h;exact⟨a,l,us,b,s _ _ c,e.same s⟩
 | pour ks=>obtain⟨a,l,us,b,c,e⟩:=h;exact⟨a,l,us,b,s _ _ c,e.same s⟩
 | ask a=>exact h
 | srt a=>exact h
def DsAt(H:Hp)(ts:List Addr)(ds:List Dd):Prop:=ts.length=ds.length/\∀(k:Nat) t d,ts[k]? = some t->ds[k]? = some d->∃w g,H t=some (.tup [.str w,g])/\DdV H w g d
theorem DsAt.same{H H1:Hp}{ts:List Addr}{ds:List Dd}(h:DsAt H ts ds)(s:Same H H1):DsAt H1 ts ds:=⟨h.1,λk t d a b=>by obtain⟨w,g,e,v⟩:=h.2 k t d a b;exact⟨w,g,s _ _ e,v.same s⟩⟩
theorem DsAt.snoc{H:Hp}{ts:List Addr}{ds:List Dd}{t:Addr}{d:Dd}{w:Str}{g:V}(h:DsAt H ts ds)(e1:H t=some (.tup [.str w,g]))(e2:DdV H w g d):DsAt H (ts++[t]) (ds++[d]):=by
 refine⟨by simp[h.1],λk t' n' a b=>?_⟩;by_cases hk:k<ts.length
 ·rw[Ep hk]at a
  rw[Ep (by rw[<-h.1];exact hk)]at b;exact h.2 k t' n' a b
 ·have e:k=ts.length:=by
   have:=(Ei.mp a).1;simp at this;lia
  subst e;rw[Ey (Ed _),Gy]at a;rw[Ey (by rw[h.1];exact Ed _),show ts.length - ds.length=0 by have:=h.1;lia]at b;cases a;cases b;exact⟨w,g,e1,e2⟩
def sgn(c:Nat):Prop:=39<=c/\c<=122
theorem qC(h:c∈dgs m):sgn c:=by have:=fq m c h;unfold sgn;lia
theorem jm(n:Int):∀c∈(toString n:Str).cps.toList,sgn c:=λc hc=>by
 rw[c4]at hc;split at hc
 ·rcases EA.mp hc with rfl|z
  ·unfold sgn;lia
  ·exact qC z
 ·exact qC hc
theorem lR(hx:∀c∈x.cps.toList,sgn c)(hy:∀c∈y.cps.toList,sgn c):∀c∈(x++y).cps.toList,sgn c:=λc hc=>by
 rw[Ij,G0]at hc;exact(ET.mp hc).elim (hx c) (hy c)
theorem Ky.sgn{kd:Str}{k:Ky}(h:k.ok kd):∀c∈k.word.cps.toList,Fs.sgn c:=by
 cases k with
 | num n=>exact jm n
 | par n b=>
  show ∀c∈(dA n b).cps.toList,_
  unfold dA;split
  ·exact jm n
  ·exact lR (lR (jm n) (by unfold Fs.sgn;decide +kernel)) (jm b)
 | txt w=>
  refine lR (by unfold Fs.sgn;decide +kernel) λc hc=>?_
  have:=h.2.2.2.2 c hc;unfold Fs.sgn;lia
theorem fR{k:Ky}(h:k.ok kd):k.word.length<=60:=by
 cases k with
 | num n=>exact E5 (cF h.2) (by decide)
 | par n b=>exact kx h.2
 | txt w=>have:=h.2.1;show(tN w).length<=60;rw[jj];lia
theorem mZ:∀w∈wayL,(∀c∈w.cps.toList,sgn c)/\w.length<=60:=by unfold sgn;decide +kernel
theorem tR:∀w∈askL,(∀c∈w.cps.toList,sgn c)/\w.length<=60:=by unfold sgn;decide +kernel
theorem m4:∀w∈(["row","pour","sort"]:List Str),(∀c∈w.cps.toList,sgn c)/\w.length<=60:=by unfold sgn;decide +kernel
theorem Dd.sgn{kd:Str}{d:Dd}(h:d.ok kd):∀w∈d.words,(∀c∈w.cps.toList,Fs.sgn c)/\w.length<=60:=λw hw=>by
 have key:∀(x:Str) (ks:List Ky),x∈(["row","pour","sort"]:List Str)->(∀k∈ks,k.ok kd)->w∈x::ks.map Ky.word->(∀c∈w.cps.toList,Fs.sgn c)/\w.length<=60:=λx ks hx hk hw=>by
  rcases EA.mp hw with rfl|hw
  ·exact m4 _ hx
  ·obtain⟨k,hm,rfl⟩:=EC.mp hw
   exact⟨Ky.sgn (hk k hm),fR (hk k hm)⟩
 cases d with
 | row ks=>exact key _ ks (by simp) h.1 hw
 | pour ks=>exact key _ ks (by simp) h.1 hw
 | ask a=>rw[EG.mp hw];exact tR _ h
 | srt a=>
  rcases EA.mp hw with rfl|hw
  ·exact m4 _ (by simp)
  ·rw[EG.mp hw];exact mZ _ h
theorem Dd.few{d:Dd}(h:d.ok kd):d.words.length<=61/\d.words≠[]:=by
 cases d with
 | row ks=>have:=h.2;exact⟨by simp[Dd.words];lia,GU _ _⟩
 | pour ks=>have:=h.2.1;exact⟨by simp[Dd.words];lia,GU _ _⟩
 | ask a=>exact⟨by simp[Dd.words],GU _ _⟩
 | srt a=>exact⟨by simp[Dd.words],GU _ _⟩
noncomputable def Dd.text(d:Dd):Str:=GH ⟨#[32]⟩ d.words
theorem Dd.split {d:Dd}(h:d.ok kd):FV d.text " " = d.words:=by
 rw[oa];refine fu (Dd.few h).2 λr hr z=>?_
 have:=(Dd.sgn h r hr).1 32 z;unfold Fs.sgn at this;lia
theorem m5{xs:List Str}(h:∀x∈xs,x.length<=m):(xs.map (·.length)).sum<=m*xs.length:=by
 induction xs with
 | nil=>simp
 | cons x xs ih=>
  have:=h x (EL ..);have:=ih λr h'=>h r (Eu _ h')
  simp only[E1,Fv,EB];rw[JJ];lia
theorem Dd.tlen{d:Dd}(h:d.ok kd):d.text.length<=4000:=by
 have e1:=Hr ⟨#[32]⟩ d.words;have e2:=m5 λw hw=>(Dd.sgn h w hw).2
 have e3:=(Dd.few h).1;have e4:((⟨#[32]⟩:Str)).length=1:=rfl;rw[e4]at e1;unfold Dd.text;lia
theorem fS{c:Nat}:∀{xs:List Str}{z:Nat},z∈(GH ⟨#[c]⟩ xs).cps.toList->z=c\/∃x∈xs,z∈x.cps.toList
 | [],z,h=>by cases h
 | [x],z,h=>.inr ⟨x,by simp,h⟩
 | x::y::r,z,h=>by
  rw[dM]at h;rcases ET.mp h with h|h
  ·exact .inr ⟨x,by simp,h⟩
  ·rcases EA.mp h with rfl|h
   ·exact .inl rfl
   ·rcases fS h with h|⟨w,a,b⟩
    ·exact .inl h
    ·exact .inr ⟨w,Eu _ a,b⟩
theorem Dd.nl{d:Dd}(h:d.ok kd):10∉d.text.cps.toList:=λz=>by
 rcases fS z with z|⟨w,a,b⟩
 ·cases z
 ·have:=(Dd.sgn h w a).1 10 b
  unfold Fs.sgn at this;lia
noncomputable def m6(n:Nat):Str:=⟨((Ii 10 n).map L4).toArray⟩
noncomputable def kindT (kd:Str) (b:Nat):Str:="kind "++kd++" "++m6 b
theorem kE:∀n,n<65->2<=n->jh (m6 n)=true/\intText? (m6 n)=some (n:Int)/\32∉(m6 n).cps.toList/\10∉(m6 n).cps.toList/\(m6 n).length<=2:=by decide +kernel
noncomputable def cS:List Str:=["number","part","text"]
theorem m7:∀kd∈cS,n8 kd=true/\32∉kd.cps.toList/\10∉kd.cps.toList/\kd.length<=6:=by decide +kernel
theorem kF (kd:Str) (n:Nat):kindT kd n=GH ⟨#[32]⟩ ["kind",kd,m6 n]:=by
 have e:("kind " : Str) = "kind"++(⟨#[32]⟩:Str):=by decide +kernel
 unfold kindT;rw[e,oa];show _ = "kind"++(⟨#[32]⟩:Str)++(kd++⟨#[32]⟩++m6 n)
 rw[FR,FR,FR,FR,FR]
theorem oe (hk:32∉kd.cps.toList) (hn:32∉(m6 n).cps.toList):FV (kindT kd n) " " = (["kind",kd,m6 n]:List Str):=by
 rw[kF,oa];refine fu (by simp) λr hr=>?_
 simp only[EA,EZ,or_false]at hr;rcases hr with rfl|rfl|rfl
 ·decide +kernel
 ·exact hk
 ·exact hn
theorem fv (hk:kd∈cS) (hn:n<=64) (hn2:2<=n):okK (FV (kindT kd n) " ")/\rdK (FV (kindT kd n) " ")=some (kd,(n:Int))/\(kindT kd n).length<=20/\10∉(kindT kd n).cps.toList/\¬kindT kd n = "":=by
 obtain⟨k1,k2,k3,k4⟩:=m7 kd hk;obtain⟨n1,n2,n3,n4,n5⟩:=kE n ⋯ hn2;have es:=oe k2 n3;have e5:("kind " : Str).length=5:=by decide +kernel
 have e6:(" " : Str).length=1:=by decide +kernel
 have hl:(kindT kd n).length=5+kd.length+1+(m6 n).length:=by
  unfold kindT;rw[Fp,Fp,Fp,e5,e6]
 refine⟨?_,?_,by lia,λz=>?_,λz=>?_⟩
 ·rw[es]
  refine⟨by simp,λw hw=>?_,λ_ _=>?_⟩
  ·simp only[EA,EZ,or_false]at hw
   rcases hw with rfl|rfl|rfl
   ·decide +kernel
   ·lia
   ·lia
  ·show(intText? (m6 n)).isSome=true
   rw[n2];rfl
 ·rw[es]
  unfold rdK;rw[if_pos ⟨rfl,rfl,k1⟩];show(match gZ (m6 n)with|none=>none|some b=>if b<2\/64<b then none else some (kd,b))=_
  unfold gZ;rw[if_pos n1,n2];exact if_neg ⋯
 ·rw[kF]at z
  rcases fS z with z|⟨w,a,b⟩
  ·cases z
  ·simp only[EA,EZ,or_false]at a
   rcases a with rfl|rfl|rfl
   ·exact absurd b (by decide +kernel)
   ·exact k3 b
   ·exact n4 b
 ·rw[z]at hl
  have e0:("" : Str).length=0:=by decide +kernel
  lia
noncomputable def nbs(rows:List Str):Nat->List (Nat×Str)
 | 0=>[]
 | i+1=>nbs rows i++if rows.getD i "" = "" then[]else[(i,rows.getD i "")]
theorem lS{rows:List Str}:∀i:Nat,(nbs rows i).length<=i
 | 0=>Ed _
 | i+1=>by
  have:=lS (rows:=rows) i;rw[nbs,En];split<;>simp<;>lia
theorem m8 {rows:List Str}:∀i,i<=rows.length->(nbs rows i).map N7=(rows.take i).filter λr:Str=>decide (¬r = "")
 | 0,_=>rfl
 | i+1,h=>by
  have e:rows[i]? = some (rows.getD i ""):=by rw[Eb,D9 h];rfl
  rw[nbs,Ef,m8 i ⋯,Em,e,FW];generalize rows.getD i "" = r;by_cases z:r = ""
  ·rw[if_pos z];simp[z]
  ·rw[if_neg z];simp[z]
structure TextOk (text:Str) (rows:List Str) (kd:Str) (b:Nat) (ds:List Dd):Prop where
 spl:FV text "\n" = rows
 len:text.length<=1000000
 few:rows.length<=200
 row:∀r∈rows,r.length<=4000
 all:(rows.filter λr:Str=>decide (¬r = ""))=kindT kd b::ds.map Dd.text
 kdm:kd∈cS
 b2:2<=b
 b64:b<=64
 ok:∀d∈ds,d.ok kd
 sum:(ds.map Dd.many).sum<=200
noncomputable def CC (t:Ad):List (Str×Addr):=[("order",(t.f 65)),("back",(t.f 66)),("rings",(t.f 67)),("ahead",(t.f 68)),("cheapest",(t.f 69)),("walk",(t.f 70)),("puts",(t.f 71)),("poured",(t.f 72)),("heaps",(t.f 73))]
theorem qD{β:Type}{w:Str}:∀l:List (Str×β),(l.lookup w).isSome=(l.map Lq).contains w
 | []=>rfl
 | (x,y)::l=>by
  rw[E8,E1,List.contains_cons,<-qD l];cases w == x<;>rfl
theorem qE(t:Ad)(w:Str):((CC t).lookup w).isSome=askL.contains w:=qD _
theorem kG:askL.contains ("row" : Str)=false/\askL.contains ("pour" : Str)=false:=by decide +kernel
theorem xA:∀w∈wayL,inV (Oh w) [Oh "last",Oh "first",Oh "runs"]=true:=by
 intro w hw;simp only[wayL,EA,EZ,or_false]at hw;rcases hw with rfl|rfl|rfl<;>decide +kernel
def xB:Sp:=λvs H Q _=>∃(a:Addr) (d:Dd) (kd:Str),vs=[.ref a]/\H a=some (.lst (d.words.map Oh))/\d.ok kd/\(d.deed->Q .non H)/\(¬d.deed->∀(x:Addr) (w:Str) (g:V) H',Same H H'->H' x=some (.tup [.str w,g])->DdV H' w g d->Q (.ref x) H')
theorem lT (T:Tx K mg t):FnOk P t.wd K mg base CX0 1 (t.f 76) (t.d 76) ["words"] xB:=by
 refine okT (N:=["words"]) (T.fn 76 rfl) (λH Q hr nd h=>?_)
 ·obtain⟨a,d,kd,rfl,ta,hd,k0,k⟩:=h
  refine⟨_,(ae (a8 (Ol (eJ (av fz (ak (aV (K:=K)) (by rfl) T.bg aK (ah (qv 0) aa)) ag (aw _)) (dZ (av (zO T.ub T.js) (aJ (a9 (K:=K)) (qv 0) ag) (bN (v:=.ref t.fD) rfl T.Ax rfl) rfl)))) (ai (au (aU (ah (aJ (a9 (K:=K)) (qv 0) ag) (ah bW aa))))) aG)
   (ae (a8 (Ol (eJ (av fz (ak (aV (K:=K)) (by rfl) T.bg aK (ah (qv 0) aa)) ag (aw _)) (eJ (av fz (aJ (a9 (K:=K)) (qv 0) ag) aB (aw _)) (dZ (av (Cg (K:=K)) (aJ (a9 (K:=K)) (qv 0) ag) (bN (v:=.ref t.gJ) rfl T.Az rfl) rfl))))) (ai (au (aU (ah aB (ah (aJ (a9 (K:=K)) (qv 0) ag) aa))))) aG)
   (ai (au bW)))),?_⟩
  dsimp only[st0];nofun;refine aE (Oe ta) ?_;rw[Ea];nofun;obtain⟨x,r,e,hx⟩:∃x r,d.words=x::r/\((d.deed/\(x = "row"\/x = "pour"))\/(¬d.deed/\(d=.ask x/\r=[]/\x∈askL\/∃w,d=.srt w/\x = "sort"/\r=[w]/\w∈wayL))):=by
   cases d with
   | row ks=>exact⟨_,_,rfl,.inl ⟨trivial,.inl rfl⟩⟩
   | pour ks=>exact⟨_,_,rfl,.inl ⟨trivial,.inr rfl⟩⟩
   | ask w=>exact⟨_,_,rfl,.inr ⟨id,.inl ⟨rfl,rfl,hd⟩⟩⟩
   | srt w=>exact⟨_,_,rfl,.inr ⟨id,.inr ⟨w,rfl,rfl,rfl,hd⟩⟩⟩
  rw[e]at ta ⊢;have at0:atI ((x::r).map Oh) 0=some (Oh x):=aT (j:=0) rfl;have hl1:∀(m:Nat),decide (Og (((x::r).length:Nat):Int)=Og (m:Nat))=decide ((x::r).length=m):=λm=>by
   by_cases z:(x::r).length=m
   ·rw[z,decide_eq_true rfl,decide_eq_true rfl]
   ·rw[decide_eq_false z,decide_eq_false λu=>z (by have:=Og.inj u;lia)]
  rw[show(Og 1)=Og ((1:Nat):Int)from rfl,hl1];rcases hx with⟨hd',hx⟩|⟨hd',hx⟩
  ·have hns:¬x = "sort":=by rcases hx with rfl | rfl<;>decide +kernel
   have hna:askL.contains x=false:=by rcases hx with rfl|rfl<;>first|exact kG.1|exact kG.2
   have two:∀{Q':Prop},Q'->Q':=id
   by_cases h1:(x::r).length=1
   ·rw[decide_eq_true h1]
    nofun;refine bz (Oe ta) at0 ?_;nofun;refine⟨x,rfl,rfl,?_⟩;have q:=qE t x;unfold CC at q;rw[q,hna];nofun;refine aE (Oe ta) ?_;rw[Ea];nofun;rw[show(Og 2)=Og ((2:Nat):Int)from rfl,hl1,decide_eq_false ⋯];nofun;exact k0 hd'
   ·rw[decide_eq_false h1]
    nofun;refine aE (Oe ta) ?_;rw[Ea];nofun;rw[show(Og 2)=Og ((2:Nat):Int)from rfl,hl1];by_cases h2:(x::r).length=2
    ·rw[decide_eq_true h2]
     nofun;refine bz (Oe ta) at0 ?_;nofun;rw[decide_eq_false λu=>hns (Oh.inj u)];nofun;exact k0 hd'
    ·rw[decide_eq_false h2]
     nofun;exact k0 hd'
  ·have k:=k hd'
   rcases hx with⟨rfl,rfl,hm⟩|⟨w,rfl,rfl,rfl,hm⟩
   ·rw[decide_eq_true (show([x]:List Str).length=1 from rfl)]
    nofun;refine⟨x,rfl,rfl,?_⟩;have q:=qE t x;unfold CC at q;rw[q,show askL.contains x=true from GO.mpr hm];nofun;exact⟨ax (by simp),λy hy=>k y _ _ _ ((Oj H).new hy) af ⟨rfl,rfl⟩⟩
   ·rw[decide_eq_false (show ¬((("sort" : Str)::[w]).length=1)from λz=>by simp at z)]
    nofun;refine aE (Oe ta) ?_;nofun;rw[decide_eq_true (show Og (((([("sort" : Str),w]).map Oh).length:Nat):Int)=Og 2 from rfl)];nofun;rw[decide_eq_true rfl];nofun;refine⟨t.gJ,_,rfl,.inr (T.ud _),rfl,rfl,?_⟩;rw[if_neg (by decide),xA w hm];nofun;exact⟨ax (by simp),λy hy=>k y _ _ _ ((Oj H).new hy) af ⟨rfl,rfl⟩⟩
def tS:Sp:=λvs H Q _=>∃(kd:Str) (a:Addr) (d:Dd) (m:Nat),vs=[.str kd,.ref a,.int m]/\H a=some (.lst (d.words.map Oh))/\kd∈cS/\d.ok kd/\d.deed/\d.many<=m/\∀(x:Addr) (w:Str) (g:V) H',Same H H'->H' x=some (.tup [.str w,g])->DdV H' w g d->(∀l,g=.ref l->H l=none)->Q (.ref x) H'
theorem fT (h:kd∈cS):kd = "number"\/kd = "part"\/kd = "text":=by
 simpa [cS]using h
theorem CD{x:V}:kO (x::xs) (some 1) none=xs:=by
 unfold kO;simp[HT.sIx]
theorem kH (T:Tx K mg t):FnOk P t.wd K mg base CX0 6 (t.f 75) (t.d 75) ["kind","words","room"] tS:=by
 refine okT (N:=["kind","words","room","keys"]) (T.fn 75 rfl) (λH Q hr nd h=>?_)
 ·obtain⟨kd,a,d,m,rfl,ta,hkd,hd,hdd,hm,k⟩:=h
  obtain⟨x,ks,e,hok,hks,hx⟩:∃x ks,d.words=x::ks.map Ky.word/\(∀k∈ks,k.ok kd)/\ks.length<=60/\((x = "row"/\d=.row ks)\/(x = "pour"/\d=.pour ks/\1<=ks.length/\ks.length<=m)):=by
   cases d with
   | row ks=>exact⟨_,ks,rfl,hd.1,hd.2,.inl ⟨rfl,rfl⟩⟩
   | pour ks=>exact⟨_,ks,rfl,hd.1,hd.2.1,.inr ⟨rfl,rfl,hd.2.2,hm⟩⟩
   | ask w=>exact hdd.elim
   | srt w=>exact hdd.elim
  rw[e]at ta;have at0:atI ((x::ks.map Ky.word).map Oh) 0=some (Oh x):=aT (j:=0) rfl;refine⟨_,(ae (aD (i:=3) (aA (kB T) hr (T.fn 54 rfl) (ah (qv 0) (ah (bL (gT (K:=K)) (qv 1) (bE ag) fc) aa))))
   (ae (a8 (av lr (qv 3) bW (aw _)) (ai (au bW)) aG)
   (ae (a8 (Ol (eJ (av fz (aJ (a9 (K:=K)) (qv 1) ag) aB (aw _)) (dZ (av De (ak (aV (K:=K)) (by rfl) T.bg aK (ah (qv 3) aa)) (bN (v:=.int 200) rfl T.gL ⟨_,rfl⟩) (aw _))))) (ai (au (aU (ah aB (ah (qv 3) aa))))) aG)
   (ae (a8 (Ol (eJ (av fz (aJ (a9 (K:=K)) (qv 1) ag) aB (aw _)) (eJ (av BY (ak (aV (K:=K)) (by rfl) T.bg aK (ah (qv 3) aa)) ag (aw _)) (dZ (av De (ak (aV (K:=K)) (by rfl) T.bg aK (ah (qv 3) aa)) (qv 2) (aw _)))))) (ai (au (aU (ah aB (ah (qv 3) aa))))) aG)
   (ai (au bW)))))),?_⟩
  dsimp only[st0];nofun;refine⟨1,rfl,?_⟩;nofun;refine gC ta λp H1 s1 tp=>?_
  rw[E1,CD,FD]at tp;nofun;refine⟨kd,p,ks,rfl,tp,fT hkd,hok,by lia,λl us H2 s2 hl tl hK=>?_⟩;nofun;rw[decide_eq_false (show ¬Oi l=V.non from λz=>nomatch z)];nofun;have s12:=s1.trans s2;have ta2:=s12 _ _ ta;refine bz (Oe ta2) at0 ?_;nofun;rcases hx with⟨rfl,rfl⟩|⟨rfl,rfl,h1,h2⟩
  ·rw[decide_eq_true rfl]
   nofun;refine aE (Oe tl) ?_;nofun;rw[decide_eq_true (show((us.length:Nat):Int)<=200 by rw[hK.1];lia)];nofun;refine⟨ax (by simp),λy hy=>?_⟩;have s3:=(Oj H2).new (o:=.tup [.str "row",.ref l]) hy;exact k y _ _ _ (s12.trans s3) af ⟨rfl,l,us,rfl,s3 _ _ tl,hK.same s3⟩ (λl' e=>by cases e;exact s1.free hl)
  ·rw[decide_eq_false (show ¬Oh "pour" = Oh "row" from λz=>absurd (Oh.inj z) (by decide +kernel))]
   nofun;refine bz (Oe ta2) at0 ?_;nofun;rw[decide_eq_true rfl];nofun;refine aE (Oe tl) ?_;nofun;rw[decide_eq_true (show((us.length:Nat):Int)>=1 by rw[hK.1];lia)];nofun;refine aE (Oe tl) ?_;nofun;rw[decide_eq_true (show((us.length:Nat):Int)<=(m:Int)by rw[hK.1];lia)];nofun;refine⟨ax (by simp),λy hy=>?_⟩;have s3:=(Oj H2).new (o:=.tup [.str "pour",.ref l]) hy;exact k y _ _ _ (s12.trans s3) af ⟨rfl,l,us,rfl,s3 _ _ tl,hK.same s3⟩ (λl' e=>by cases e;exact s1.free hl)
def NbAt (H:Hp) (ts:List Addr) (ns:List (Nat×Str)):Prop:=ts.length=ns.length/\∀(k:Nat) t n,ts[k]? = some t->ns[k]? = some n->∃l,H t=some (.tup [.int (n.1:Nat),.ref l])/\H l=some (.lst ((FV n.2 " ").map Oh))
theorem NbAt.same{H:Hp}{ts:List Addr}{ns:List (Nat×Str)}(h:NbAt H ts ns)(s:Same H H1):NbAt H1 ts ns:=⟨h.1,λk t n a b=>by obtain⟨l,e1,e2⟩:=h.2 k t n a b;exact⟨l,s _ _ e1,s _ _ e2⟩⟩
theorem NbAt.snoc {H:Hp}{ts:List Addr}{ns:List (Nat×Str)}{t:Addr}{n:Nat×Str}(h:NbAt H ts ns) (e1:H t=some (.tup [.int (n.1:Nat),.ref l])) (e2:H l=some (.lst ((FV n.2 " ").map Oh))):NbAt H (ts++[t]) (ns++[n]):=by
 refine⟨by simp[h.1],λk t' n' a b=>?_⟩;by_cases hk:k<ts.length
 ·rw[Ep hk]at a
  rw[Ep (by rw[<-h.1];exact hk)]at b;exact h.2 k t' n' a b
 ·have e:k=ts.length:=by
   have:=(Ei.mp a).1;simp at this;lia
  subst e;rw[Ey (Ed _),Gy]at a;rw[Ey (by rw[h.1];exact Ed _),show ts.length - ns.length=0 by have:=h.1;lia]at b;cases a;cases b;exact⟨l,e1,e2⟩
theorem DdV.nref{H:Hp}{w:Str}{g:V}{d:Dd}(h:DdV H w g d)(hn:¬d.deed)(l:Addr):g≠.ref l:=by
 cases d with
 | row ks=>exact(hn trivial).elim
 | pour ks=>exact(hn trivial).elim
 | ask a=>rw[h.2];exact λz=>nomatch z
 | srt a=>rw[h.2];exact λz=>nomatch z
theorem DdV.own{H:Hp}{w:Str}{g:V}{d:Dd}(h:DdV H w g d)(e:H a=some (.lst xs))(hl:∀l,g=.ref l->l≠a):DdV (upd H a (.lst ys)) w g d:=by
 have tu:∀b zs,H b=some (.tup zs)->(upd H a (.lst ys)) b=some (.tup zs):=λb zs q=>by rw[ar (λz=>by rw[z,e]at q;cases q)];exact q
 cases d with
 | row ks=>obtain⟨p,l,us,b,c,q⟩:=h;exact⟨p,l,us,b,by rw[ar (hl l b)];exact c,q.1,λi v k m n=>Ky.keep (q.2 i v k m n) tu⟩
 | pour ks=>obtain⟨p,l,us,b,c,q⟩:=h;exact⟨p,l,us,b,by rw[ar (hl l b)];exact c,q.1,λi v k m n=>Ky.keep (q.2 i v k m n) tu⟩
 | ask a=>exact h
 | srt a=>exact h
theorem qF{ds:List Dd}{d:Dd}(e:ds[i]? = some d):((ds.take (i+1)).map Dd.many).sum=((ds.take i).map Dd.many).sum+d.many/\((ds.take (i+1)).map Dd.many).sum<=(ds.map Dd.many).sum:=by
 constructor
 ·rw[Em,e,Ef,F1]
  simp
 ·conv=>rhs;rw[<-Gj (i+1) ds,Ef,F1]
  lia
theorem DdV.wd {H:Hp}{w:Str}{g:V}{d:Dd}(h:DdV H w g d) (hd:d.ok kd):(w = "pour"/\∃l us,g=.ref l/\H l=some (.lst us)/\us.length=d.many)\/(¬w = "pour"/\d.many=0):=by
 cases d with
 | row ks=>exact .inr ⟨by rw[h.1];decide +kernel,rfl⟩
 | pour ks=>obtain⟨a,l,us,b,c,e⟩:=h;exact .inl ⟨a,l,us,b,c,e.1⟩
 | ask w=>refine .inr ⟨?_,rfl⟩;rw[h.1];rintro rfl;exact absurd (GO.mpr hd) (by rw[kG.2];decide)
 | srt w=>exact .inr ⟨by rw[h.1];decide +kernel,rfl⟩
def qG:Sp:=λvs H Q _=>∃(kd:Str) (a:Addr) (ts:List Addr) (ns:List (Nat×Str)) (ds:List Dd),vs=[.str kd,.ref a]/\H a=some (.lst (ts.map Oi))/\NbAt H ts ns/\kd∈cS/\ns.map N7=ds.map Dd.text/\(∀d∈ds,d.ok kd)/\(ds.map Dd.many).sum<=200/\ds.length<=200/\
 ∀(d:Addr) (us:List Addr) H',Same H H'->H' d=some (.lst (us.map Oi))->DsAt H' us ds->Q (.ref d) H'
theorem jn (T:Tx K mg t):FnOk P t.wd K mg base CX0 7 (t.f 77) (t.d 77) ["kind","numbered"] qG:=by
 refine okT (N:=["kind","numbered","deeds","room","line","words","deed"]) (T.fn 77 rfl) (λH Q hr nd h=>?_)
 ·obtain⟨kd,a,ts,ns,ds,rfl,ta,hN,hkd,hns,hA,hsum,hn,k⟩:=h
  have htl:ts.length=ns.length:=hN.1;have hnl:ns.length=ds.length:=by have:=congrArg Gq hns;simpa using this
  refine⟨_,(ae (aD (i:=2) (aO aa))
   (ae (aD (i:=3) (bN (v:=.int 200) rfl T.gL ⟨_,rfl⟩))
   (ae (bX EM rfl (aI (K:=K) (qv 1)) (bo (K:=K) (n:=2) rfl (ao (ay (i:=4)) (ao (ay (i:=5)) aQ))) (ae (aD (i:=6) (uQ (K:=K) (aA (lT T) hr (T.fn 76 rfl) (ah (qv 5) aa)) (mf (aA (kH T) hr (T.fn 75 rfl) (ah (qv 0) (ah (qv 5) (ah (qv 3) aa)))))))
   (ae (a8 (av lr (qv 6) bW (aw _)) (ai c8) aG)
   (ae (a8 (av fz (aJ (fE (K:=K)) (qv 6) ag) aB (aw _)) (ai (gh (i:=3) nd rfl (GM rfl) (ak (aV (K:=K)) (by rfl) T.bg aK (ah (aJ (fE (K:=K)) (qv 6) ag) aa)) ze)) aG)
   (ai (bC (bf (K:=K) (qv 2) (ah (qv 6) aa))))))))
   (ai (au (qv 2)))))),?_⟩
  dsimp only[st0];nofun;refine⟨ax (by simp),λd hd=>?_⟩;obtain⟨H1,e9,s1,(td:H1 d=some (.lst (([]:List Addr).map Oi)))⟩:=nwR hd (.lst []);rw[e9];nofun;refine⟨a,rfl,⟨_,Oe (s1 _ _ ta)⟩,cK (a:=a) (xs:=ts.map Oi) (λi σ H'=>Same H H'/\(∃us:List Addr,H' d=some (.lst (us.map Oi))/\us.length=i/\DsAt H' us (ds.take i)/\∀q∈us,∀w l,H' q=some (.tup [.str w,.ref l])->l≠d)/\∃v1 v2 v3,σ=[some (Oh kd),some (Oi a),some (Oi d),some (Og ((200 - ((ds.take i).map Dd.many).sum:Nat):Int)),v1,v2,v3]) ⟨s1,⟨[],td,rfl,⟨rfl,λk t w h=>by simp at h⟩,λq h=>nomatch h⟩,_,_,_,rfl⟩ (λi σ H' _ h=>Oe (h.1 _ _ ta)) ?_ ?_⟩
  ·rintro i x σ H2 hx ⟨s2,⟨us,td2,hul,hD,hne⟩,v1,v2,v3,rfl⟩
   obtain⟨q,rfl,eq,_,hi⟩:=aF hx;have en:ns[i]? = some (ns[i]'⋯):=D9 _;have edd:ds[i]? = some (ds[i]'⋯):=D9 _;have hw:=hA _ (Ez edd);obtain⟨l,e1,e2⟩:=hN.2 i q _ eq en;have et:(ns[i]'⋯).2=(ds[i]'⋯).text:=by
    have z:=congrArg (λxs=>xs[i]?) hns;rw[Eh,Eh,en,edd]at z;exact EE z
   rw[et,Dd.split hw]at e2;obtain⟨m1,m2⟩:=qF edd;generalize ns[i]'⋯=n at en e1;generalize ds[i]'⋯=dd at edd hw e2 m1 m2;refine aY (s2 _ _ e1) ?_;dsimp only[E4];nofun;have hdn:H d=none:=hd;apply wt (α:=Addr) (S:=λx H3=>∃w g,Same H2 H3/\H3 x=some (.tup [.str w,g])/\DdV H3 w g dd/\∀l,g=.ref l->l≠d);case hA=>
    intro key;refine⟨l,dd,kd,rfl,s2 _ _ e2,hw,λhdd=>?_,λhdd x w g H3 s3 tx hv=>?_⟩
    ·refine⟨false,rfl,(λz=>nomatch z),λ_=>?_⟩
     nofun;refine⟨kd,l,dd,_,rfl,s2 _ _ e2,hkd,hw,hdd,by lia,λx w g H3 s3 tx hv hf=>?_⟩;nofun;exact key x H3 ⟨w,g,s3,tx,hv,λl e=>E2 (aj td2 (hf l e))⟩
    ·refine⟨true,.inr (.inl ⟨_,Of tx,rfl⟩),λ_=>?_,λz=>nomatch z⟩
     nofun;exact key x H3 ⟨w,g,s3,tx,hv,λl e=>absurd e (hv.nref hdd l)⟩
   case hB=>
    rintro x H3 ⟨w,g,s3,tx,hv,hgl⟩;nofun;refine dQ (λz=>nomatch z) ?_;nofun;have td3:=s3 _ _ td2;apply wt (α:=V) (S:=λr H4=>r=Og ((200 - ((ds.take (i+1)).map Dd.many).sum:Nat):Int)/\H3=H4);case hA=>
     intro key;rcases hv.wd hw with⟨hwp,l2,us2,hg,e3,e4⟩|⟨hnp,hm0⟩
     ·rw[decide_eq_true (congrArg Oh hwp)]
      nofun;rw[hg];refine aE (Oe e3) ?_;nofun;have er:Og (((200 - ((ds.take i).map Dd.many).sum:Nat):Int) - (us2.length:Nat))=Og ((200 - ((ds.take (i+1)).map Dd.many).sum:Nat):Int):=congrArg Og ⋯;rw[er];generalize e7:Og ((200 - ((ds.take (i+1)).map Dd.many).sum:Nat):Int)=r;generalize e8:H3=H4;dsimp only[E4];exact key r H4 ⟨e7.symm,e8⟩
     ·rw[decide_eq_false λu=>hnp (Oh.inj u)]
      nofun;have er:Og ((200 - ((ds.take i).map Dd.many).sum:Nat):Int)=Og ((200 - ((ds.take (i+1)).map Dd.many).sum:Nat):Int):=congrArg Og ⋯;rw[er];generalize e7:Og ((200 - ((ds.take (i+1)).map Dd.many).sum:Nat):Int)=r;generalize e8:H3=H4;dsimp only[E4];exact key r H4 ⟨e7.symm,e8⟩
    case hB=>
     rintro r H4 ⟨rfl,rfl⟩;refine⟨br td3,?_⟩;nofun;refine aW td3 (by rw[Ea];exact aq ⋯) ?_;have s23:=s2.trans s3;have nt:∀b zs,H3 b=some (.tup zs)->(upd H3 d (.lst (us.map Oi++[Oi x]))) b=some (.tup zs):=λb zs q=>by rw[ar (λz=>by rw[z,td3]at q;cases q)];exact q
     have D3:=hD.same s3;nofun;refine⟨s23.own hdn,⟨us++[x],by rw[af,Ef];rfl,by simp[hul],?_,λq hq w' l' e=>?_⟩,_,_,_,rfl⟩
     ·rw[Em,edd]
      refine DsAt.snoc ⟨D3.1,λk t dk a b=>?_⟩ (nt _ _ tx) (hv.own td3 hgl);obtain⟨w',g',e5,e6⟩:=D3.2 k t dk a b;refine⟨w',g',nt _ _ e5,e6.own td3 λl' z=>?_⟩;obtain⟨w2,g2,e7,_⟩:=hD.2 k t dk a b;have e8:=s3 _ _ e7;rw[e5]at e8;cases e8;exact hne t (Ez a) w' l' (by rw[<-z];exact e7)
     ·have hqd:q≠d:=λz=>by rw[z,af]at e;cases e
      rw[ar hqd]at e;rcases ET.mp hq with hq|hq
      ·obtain⟨k,hk,rfl⟩:=GY hq
       obtain⟨w2,g2,e7,_⟩:=hD.2 k us[k] ((ds.take i)[k]'(by rw[<-hD.1];exact hk)) (D9 hk) (D9 _);have e8:=s3 _ _ e7;rw[e]at e8;cases e8;exact hne _ hq _ l' e7
      ·obtain rfl:=EG.mp hq
       rw[tx]at e;cases e;exact hgl l' rfl
  ·rintro σ H2 ⟨s2,⟨us,td2,hul,hD,_⟩,v1,v2,v3,rfl⟩
   rw[Ea]at hul hD;rw[Ee ⋯]at hD;nofun;exact k d us H2 s2 td2 hD
def tT:Sp:=λvs H Q _=>∃(text:Str) (rows:List Str) (kd:Str) (b:Nat) (ds:List Dd),vs=[.str text]/\TextOk text rows kd b ds/\∀(x h d:Addr) (us:List Addr) H',Same H H'->H' x=some (.tup [.ref h,.ref d])->H' h=some (.tup [.str kd,.int b])->H' d=some (.lst (us.map Oi))->DsAt H' us ds->Q (.ref x) H'
theorem kI (T:Tx K mg t):FnOk P t.wd K mg base CX0 8 (t.f 78) (t.d 78) ["text"] tT:=by
 refine okT (N:=["text","rows","numbered","line","words","head"]) (T.fn 78 rfl) (λH Q hr nd h=>?_)
 ·obtain⟨text,rows,kd,b,ds,rfl,hT,k⟩:=h
  have hrl:=hT.few;refine⟨_,(ae (aD (i:=1) (mP (K:=K) (qv 0) (ah aB aa)))
   (ae (wz (i:=2) (N:=["line","row"]) (tgs:=["line","row"]) (frs:=[]) (ix:=[])  nd rfl (GM rfl) ⟨rfl,by decide +kernel,rfl,by decide +kernel,rfl,rfl,Ek,Ek,rfl⟩ rfl (gj (K:=K) rfl T.cb (ah (qv 1) aa)) (λ_ _ _ _=>(bo (K:=K) (n:=2) rfl (ao (ay (i:=0)) (ao (ay (i:=1)) aQ)))) (λ_ _ _ _=>(aU (ah (qv 0) (ah (mP (K:=K) (qv 1) (ah aB aa)) aa)))) (λ_ _ _ _=>(av zd (qv 1) aB (aw _))))
   (ae (a8 (cL (eH (K:=K) (qv 2))) (ai c8) aG)
   (ae (cv (aJ (a9 (K:=K)) (qv 2) ag) (bo (K:=K) (n:=2) rfl (ao (ay (i:=3)) (ao (ay (i:=4)) aQ))))
   (ae (aD (i:=5) (aA (kv T) hr (T.fn 74 rfl) (ah (qv 4) aa)))
   (ae (a8 (av lr (qv 5) bW (aw _)) (ai c8) aG)
   (ai (au (aU (ah (qv 5) (ah (aA (jn T) hr (T.fn 77 rfl) (ah (aJ (fE (K:=K)) (qv 5) ag) (ah (bL (gT (K:=K)) (qv 2) (bE ag) fc) aa))) aa))))))))))),?_⟩
  dsimp only[st0];nofun;refine⟨rfl,?_⟩;nofun;refine⟨text,"\n",rfl,rfl,by decide +kernel,by rw[Os];have:=hT.len;lia,λra hra=>?_⟩;rw[hT.spl];obtain⟨H1,e9,s1,tra⟩:=nwR hra (.lst (rows.map Oh));rw[e9];nofun;refine⟨ra,rfl,⟨_,Oe tra⟩,pI (n:=rows.length) (λi ys σ H'=>Same H1 H'/\(∃ts:List Addr,ys=ts.map Oi/\NbAt H' ts (nbs rows i))/\∃v w,σ=[v,w]) (aq ⋯) (λi ys σ H' h=>by obtain⟨_,⟨ts,rfl,e,_⟩,_⟩:=h;rw[Ea,e];exact lS i) ⟨Oj _,⟨[],rfl,rfl,λk t n h=>by simp at h⟩,none,none,rfl⟩ ?_ ?_ ?_ ?_⟩
  ·rintro i ys σ H2 hi ⟨s2,_⟩
   exact⟨_,Oh (rows.getD i ""),Oe (s2 _ _ tra),iD hi⟩
  ·rintro ys σ H2 ⟨s2,_⟩
   exact⟨_,Oe (s2 _ _ tra),by rw[Ea]⟩
  ·rintro i x ys σ H2 H3 hi ⟨s2,⟨ts,rfl,hN⟩,v,w,rfl⟩ ⟨q,x1,rfl,hq,rfl,hx1⟩
   have hx2:=hx1 _ (Oe (s2 _ _ tra));rw[iD hi]at hx2;cases hx2;have hr:=hT.row _ (mU hi);have enb:nbs rows (i+1)=nbs rows i++if rows.getD i "" = "" then[]else[(i,rows.getD i "")]:=rfl
   generalize rows.getD i "" = r at hr enb;refine aY af ?_;dsimp only[E4];have s3:=(Oj H2).new (o:=.tup [Og (i:Nat),Oh r]) hq;generalize upd H2 q (.tup [Og (i:Nat),Oh r])=H3 at s3;nofun;refine lN ?_;by_cases e:r = ""
   ·rw[decide_eq_true (congrArg Oh e)]
    nofun;refine Om hi ⟨s2.trans s3,⟨ts,rfl,?_⟩,_,_,rfl⟩;rw[enb,if_pos e,Fl];exact hN.same s3
   ·rw[decide_eq_false λu=>e (Oh.inj u)]
    nofun;refine⟨rfl,?_⟩;nofun;refine⟨r," ",rfl,rfl,by decide +kernel,tI ⋯,λl hl=>?_⟩;obtain⟨H4,e9,s4,tl⟩:=nwR hl (.lst ((FV r " ").map Oh));rw[e9];nofun;refine⟨ax (by simp),λz hz=>?_⟩;have s5:=(Oj H4).new (o:=.tup [Og (i:Nat),Oi l]) hz;refine Om hi ⟨s2.trans (s3.trans (s4.trans s5)),⟨ts++[z],by rw[Ef];rfl,?_⟩,_,_,rfl⟩;rw[enb,if_neg e];exact((hN.same (s3.trans (s4.trans s5)))).snoc (n:=(i,r)) af (s5 _ _ tl)
  rintro ys σ H2 ⟨s2,⟨ts,rfl,hN⟩,v,w,rfl⟩ na hna;have s3:=(s1.trans s2).new (o:=.lst (ts.map Oi)) hna;have tna:(upd H2 na (.lst (ts.map Oi))) na=some (.lst (ts.map Oi)):=af;have N3:=hN.same ((Oj H2).new (o:=.lst (ts.map Oi)) hna);generalize upd H2 na (.lst (ts.map Oi))=H3 at s3 tna N3;have hnl:=lS (rows:=rows) rows.length;have hns:=m8 (rows:=rows) rows.length (Ed _);rw[Ee (Ed _),hT.all]at hns;generalize nbs rows rows.length=ns at N3 hnl hns;nofun;refine⟨_,AN (Oe tna),?_⟩;obtain⟨n0,rest0,rfl⟩:∃n r,ns=n::r:=by cases ns with|nil=>cases hns|cons n r=>exact⟨n,r,rfl⟩
  obtain⟨t0,ts0,rfl⟩:∃n r,ts=n::r:=by
   cases ts with
   | nil=>have:=N3.1;simp at this
   | cons n r=>exact⟨n,r,rfl⟩
  rw[E1]at hns;obtain⟨hn0,hns⟩:=F7 hns;obtain⟨l0,e1,e2⟩:=N3.2 0 t0 n0 rfl rfl;rw[hn0]at e2;obtain⟨f1,f2,_⟩:=fv hT.kdm hT.b64 hT.b2;rw[show(!(Lj Oi (t0::ts0)).isEmpty)=true from rfl];nofun;refine bz (Oe tna) (v:=Oi t0) (aT (j:=0) rfl) ?_;refine aY e1 ?_;dsimp only[E4];nofun;refine⟨l0,_,rfl,e2,f1,(λen=>by rw[f2]at en;cases en),λx kd' b' H4 s4 en tx=>?_⟩;rw[f2]at en;cases en;nofun;rw[decide_eq_false (show ¬Oi x=V.non from λz=>nomatch z)];nofun;refine⟨1,rfl,?_⟩;nofun;refine gC (s4 _ _ tna) λp H5 s5 tp=>?_
  rw[E1,CD]at tp;nofun;have N5:NbAt H5 ts0 rest0:=⟨by have:=N3.1;simpa using this,λk t n a b=>by obtain⟨l,e1,e2⟩:=N3.2 (k+1) t n a b;exact⟨l,s5 _ _ (s4 _ _ e1),s5 _ _ (s4 _ _ e2)⟩⟩;have hdl:ds.length<=200:=by
   have:=congrArg Gq hns;simp only[Ea]at this;simp only[EB]at hnl;lia
  refine⟨kd,p,ts0,rest0,ds,rfl,tp,N5,hT.kdm,hns,hT.ok,hT.sum,hdl,λd us H6 s6 td D=>?_⟩;refine⟨ax (by simp),λy hy=>?_⟩;have s7:=(Oj H6).new (o:=.tup [Oi x,Oi d]) hy;exact k y x d us _ (s3.trans (s4.trans (s5.trans (s6.trans s7)))) af (s7 _ _ (s6 _ _ (s5 _ _ tx))) (s7 _ _ td) (D.same s7)
noncomputable def PlO:HO->Prop
 | .lst _=>True
 | .tup _=>True
 | .ins _ _ _=>True
 | _=>False
def Tb(t:Ad)(H:Hp):Prop:=True
def Sx(t:Ad)(H H1:Hp):Prop:=Same H H1
section
variable{t:Ad}{H H1 H2:Hp}{a:Addr}{o o2:HO}
theorem Sx.of(s:Same H H1):Sx t H H1:=s
theorem Sx.trans(s:Sx t H H1)(s2:Sx t H1 H2):Sx t H H2:=Same.trans s s2
theorem Sx.at(s:Sx t H H1)(T:Tb t H)(e:H a=some o)(ho:PlO o):H1 a=some o:=s _ _ e
theorem Sx.own(s:Sx t H H1)(T:Tb t H)(e:H a=none):Sx t H (upd H1 a o):=Same.own s e
theorem Tb.same(T:Tb t H)(s:Same H H1):Tb t H1:=T
theorem Tb.upd(T:Tb t H)(e:H a=some o)(ho:PlO o):Tb t (L2.upd H a o2):=T
end
def LtK(rss:List (List Nat))(k:Kd):Prop:=rss.length=k.len/\∀i j,i<k.len->j<k.len->lxt (rss.getD i []) (rss.getD j [])=k.lt i j
theorem lU{α:Type}{zs:List α}{f:α->List Nat}{g:α->List Int}{L:Nat->Nat->Bool}(hf:∀z∈zs,cR (f z)=g z)(h:Rises (zs.map g) L)(hi:i<zs.length)(hj:j<zs.length):lxt ((zs.map f).getD i []) ((zs.map f).getD j [])=L i j:=by
 have e1:(zs.map f).getD i []=f zs[i]:=by rw[Eb,Eh,D9 hi];rfl
 have e2:(zs.map f).getD j []=f zs[j]:=by rw[Eb,Eh,D9 hj];rfl
 rw[e1,e2];show HT.bG (cR (f zs[i])) (cR (f zs[j]))=L i j
 rw[hf _ (Es hi),hf _ (Es hj)];exact h i j _ _ (by rw[Eh,D9 hi];rfl) (by rw[Eh,D9 hj];rfl)
theorem Kd.rows.lt{k:Kd}{w by':Nat}(h:k.rows b rss w by')(hk:k.ok)(hb:2<=b)(hb2:b<=64):LtK rss k:=by
 refine⟨(h.good hk hb hb2).2.1,λi j hi hj=>?_⟩;cases k with
 | nu ns=>
  obtain⟨⟨zs,h,rfl⟩,_⟩:=h;have hl:=h.len;exact lU (λz _=>qp z b w) (qo h hb) (by have:i<ns.length:=hi;lia) (by have:j<ns.length:=hj;lia)
 | pa tb=>
  obtain⟨⟨zs,h,rfl⟩,_⟩:=h;have hl:=h.len;have hw:(bH tb).length=tb.length:=by unfold bH;simp
  exact lU (λz _=>qp z b w) (xl h hb hk.2.1) (by have:i<tb.length:=hi;lia) (by have:j<tb.length:=hj;lia)
 | te zs=>
  obtain⟨⟨hM,_,rfl⟩,_⟩:=h;exact lU (λz hz=>uV (hk.2 z hz)) (xm hk.2 hM) hi hj
theorem OrdR.ris{k:Kd}{os:List Nat}(h:OrdR rss os)(h1:LtK rss k):os.Pairwise λi j=>k.lt i j=true/\k.lt j i=false\/(k.lt i j=false/\k.lt j i=false/\i<j):=by
 have m:∀o∈os,o<k.len:=λo ho=>by rw[<-h1.1];exact ER.mp (h.1.mem_iff.mp ho)
 refine F2 (λ{i j} ha hb g=>?_) h.2;have a:=h1.2 i j (m _ ha) (m _ hb);have b:=h1.2 j i (m _ hb) (m _ ha);unfold Rk at g;simp only[Fw]at g;rw[<-a,<-b];rcases g with g|⟨e,g⟩
 ·refine .inl ⟨g,?_⟩
  cases q:lxt (rss.getD j []) (rss.getD i [])with
  | false=>rfl
  | true=>exact(pL g q).elim
 ·rw[e,ig]
  exact .inr ⟨rfl,rfl,g⟩
noncomputable def Ky.nn:Ky->Int
 | .num n=>n
 | _=>0
noncomputable def Ky.pp:Ky->Int×Nat
 | .par n b=>(n,b.toNat)
 | _=>(0,1)
noncomputable def Ky.tt:Ky->Str
 | .txt w=>w
 | _=>""
noncomputable def ju (kd:Str) (ks:List Ky):Kd:=if kd = "number" then .nu (ks.map Ky.nn)else if kd = "part" then .pa (ks.map Ky.pp)else .te (ks.map Ky.tt)
theorem uX (ks:List Ky):ju "number" ks=.nu (ks.map Ky.nn):=if_pos rfl
theorem uY (ks:List Ky):ju "part" ks=.pa (ks.map Ky.pp):=by unfold ju;rw[if_neg (by decide +kernel),if_pos rfl]
theorem uZ (ks:List Ky):ju "text" ks=.te (ks.map Ky.tt):=by unfold ju;rw[if_neg (by decide +kernel),if_neg (by decide +kernel)]
theorem d8:¬("number" : Str) = "part"/\¬("number" : Str) = "text"/\¬("part" : Str) = "number"/\¬("part" : Str) = "text"/\¬("text" : Str) = "number"/\¬("text" : Str) = "part":=by decide +kernel
theorem Ky.isN {k:Ky}(h:k.ok "number"):k=.num k.nn/\k.nn.natAbs<10 ^ 18:=by
 cases k with
 | num n=>exact⟨rfl,h.2⟩
 | par n b=>exact absurd h.1 d8.1
 | txt w=>exact absurd h.1 d8.2.1
theorem Ky.isP {k:Ky}(h:k.ok "part"):k=.par k.pp.1 k.pp.2/\fC k.pp.1 k.pp.2:=by
 cases k with
 | num n=>exact absurd h.1 d8.2.2.1
 | par n b=>
  have e:((b.toNat:Nat):Int)=b:=G1 (by have:=h.2.2.1;lia);exact⟨by show Ky.par n b=.par n (b.toNat:Nat);rw[e],by show fC n (b.toNat:Nat);rw[e];exact h.2⟩
 | txt w=>exact absurd h.1 d8.2.2.2.1
theorem Ky.isT {k:Ky}(h:k.ok "text"):k=.txt k.tt/\iE k.tt:=by
 cases k with
 | num n=>exact absurd h.1 d8.2.2.2.2.1
 | par n b=>exact absurd h.1 d8.2.2.2.2.2
 | txt w=>exact⟨rfl,h.2⟩
def og(kd:Str)(ks:List Ky):Prop:=(∀k∈ks,k.ok kd)/\ks.length<=60
theorem u0{H:Hp}{us:List V}{ks:List Ky}{f:Ky->V}(h:KsW H us ks)(g:∀k∈ks,∀v,k.at H v->v=f k):us=ks.map f:=by
 apply GS (by rw[Ea];exact h.1);intro i h1 h2;rw[Ea]at h2;rw[Hu];exact g _ (Es h2) _ (h.2 i _ _ (D9 h1) (D9 h2))
theorem CF{H:Hp}{us:List V}{ks:List Ky}(hkd:kd∈cS)(h:KsW H us ks)(hk:og kd ks):(ju kd ks).name=kd/\KAt H (ju kd ks) us/\(ju kd ks).ok/\(ju kd ks).len=ks.length:=by
 rcases fT hkd with rfl|rfl|rfl
 ·rw[uX]
  refine⟨rfl,?_,⟨by rw[Ea];exact hk.2,λx hx=>?_⟩,Ea ..⟩
  ·show us=(ks.map Ky.nn).map Og
   rw[FD];refine u0 h λk hm v hv=>?_
   rw[(Ky.isN (hk.1 k hm)).1]at hv;exact hv
  ·obtain⟨k,hm,rfl⟩:=EC.mp hx
   have:=(Ky.isN (hk.1 k hm)).2;lia
 ·rw[uY]
  have hq:∀(i:Nat) v k,us[i]? = some v->ks[i]? = some k->∃q,v=.ref q/\H q=some (.tup [.int k.pp.1,.int (k.pp.2:Nat)]):=λi v k a b=>by
   have z:=h.2 i v k a b;rw[(Ky.isP (hk.1 k (Ez b))).1]at z;exact z
  refine⟨rfl,⟨us.map λv=>match v with | .ref q=>q|_=>0,?_,⟨by rw[Ea,Ea];exact h.1,λi q z a b=>?_⟩⟩,⟨by rw[Ea];exact hk.2,λz hz=>?_,λz hz=>?_⟩,Ea ..⟩
  ·apply GS (by simp)
   intro i h1 h2;obtain⟨q,e,_⟩:=hq i us[i] (ks[i]'(by rw[<-h.1];exact h1)) (D9 h1) (D9 _);simp[e]
  ·rw[Eh]at a b
   cases ea:us[i]? with
   | none=>rw[ea]at a;cases a
   | some v=>
    cases eb:ks[i]? with
    | none=>rw[eb]at b;cases b
    | some k=>
     obtain⟨q',rfl,t⟩:=hq i v k ea eb;rw[ea]at a;rw[eb]at b;cases a;cases b;exact t
  ·obtain⟨k,hm,rfl⟩:=EC.mp hz
   have:=(Ky.isP (hk.1 k hm)).2;exact⟨by have:=this.2.1;lia,by have:=this.2.2.1;lia⟩
  ·obtain⟨k,hm,rfl⟩:=EC.mp hz
   have:=(Ky.isP (hk.1 k hm)).2.1;lia
 ·rw[uZ]
  refine⟨rfl,?_,⟨by rw[Ea];exact hk.2,λx hx=>?_⟩,Ea ..⟩
  ·show us=(ks.map Ky.tt).map Oh
   rw[FD];refine u0 h λk hm v hv=>?_
   rw[(Ky.isT (hk.1 k hm)).1]at hv;exact hv
  ·obtain⟨k,hm,rfl⟩:=EC.mp hx
   exact(Ky.isT (hk.1 k hm)).2.2.2
def xZ(k:Kd)(i j:Nat):Prop:=k.lt i j=true/\k.lt j i=false\/(k.lt i j=false/\k.lt j i=false/\i<j)
def KyOrd(kd:Str)(ks:List Ky)(os:List Nat):Prop:=os.Perm (Ej ks.length)/\os.Pairwise (xZ (ju kd ks))
theorem KyOrd.one{kd:Str}{ks:List Ky}{os os':List Nat}(h:KyOrd kd ks os)(g:KyOrd kd ks os'):os=os':=by
 refine ij (λi j a b=>?_) (h.1.trans g.1.symm) h.2 g.2;rcases a with⟨a1,a2⟩|⟨a1,a2,a3⟩<;>rcases b with⟨b1,b2⟩|⟨b1,b2,b3⟩
 ·rw[a1]at b2;cases b2
 ·rw[a1]at b2;cases b2
 ·rw[a2]at b1;cases b1
 ·lia
theorem OrdR.ky{ks:List Ky}{os:List Nat}(h:OrdR rss os)(hl:LtK rss (ju kd ks))(hn:(ju kd ks).len=ks.length):KyOrd kd ks os:=
 ⟨by rw[<-hn,<-hl.1];exact h.1,h.ris hl⟩
noncomputable def cO(ks:List Ky)(i:Nat):Str:=(ks.getD i (.num 0)).word
noncomputable def okA:Dd->Prop
 | .srt _=>True
 | _=>False
noncomputable def Ans(kd:Str)(b:Nat)(ks:List Ky)(ps:List (List Ky)):Dd->Str->Prop
 | .srt _,s=>∃os,KyOrd kd ks os/\s=wrS (os.map (cO ks))
 | _,_=>False
noncomputable def g5(ks:List Ky):List Dd->List Ky
 | []=>ks
 | .row k2::ds=>g5 k2 ds
 | .pour _::ds=>g5 ks ds
 | .ask _::ds=>g5 ks ds
 | .srt _::ds=>g5 ks ds
noncomputable def dB(ps:List (List Ky)):List Dd->List (List Ky)
 | []=>ps
 | .row _::ds=>dB ps ds
 | .pour k2::ds=>dB (ps++[k2]) ds
 | .ask _::ds=>dB ps ds
 | .srt _::ds=>dB ps ds
noncomputable def AnsF(kd:Str)(b:Nat):List Ky->List (List Ky)->List Dd->List Str->Prop
 | _,_,[],as=>as=[]
 | _,ps,.row k2::ds,as=>AnsF kd b k2 ps ds as
 | ks,ps,.pour k2::ds,as=>AnsF kd b ks (ps++[k2]) ds as
 | ks,ps,.ask w::ds,as=>∃s r,as=s::r/\Ans kd b ks ps (.ask w) s/\AnsF kd b ks ps ds r
 | ks,ps,.srt w::ds,as=>∃s r,as=s::r/\Ans kd b ks ps (.srt w) s/\AnsF kd b ks ps ds r
theorem cG:∀(ds es:List Dd) (ks:List Ky),g5 ks (ds++es)=g5 (g5 ks ds) es
 | [],_,_=>rfl
 | .row _::ds,es,_=>cG ds es _
 | .pour _::ds,es,_=>cG ds es _
 | .ask _::ds,es,_=>cG ds es _
 | .srt _::ds,es,_=>cG ds es _
theorem b7:∀(ds es:List Dd) (ps:List (List Ky)),dB ps (ds++es)=dB (dB ps ds) es
 | [],_,_=>rfl
 | .row _::ds,es,_=>b7 ds es _
 | .pour _::ds,es,_=>b7 ds es _
 | .ask _::ds,es,_=>b7 ds es _
 | .srt _::ds,es,_=>b7 ds es _
theorem AnsF.app{kd:Str}{b:Nat}:∀{ds:List Dd}{ks:List Ky}{ps:List (List Ky)}{as:List Str}{es:List Dd}{bs:List Str},AnsF kd b ks ps ds as->AnsF kd b (g5 ks ds) (dB ps ds) es bs->AnsF kd b ks ps (ds++es) (as++bs)
 | [],_,_,_,_,_,h,g=>by obtain rfl:=h;exact g
 | .row _::ds,_,_,_,_,_,h,g=>AnsF.app (ds:=ds) h g
 | .pour _::ds,_,_,_,_,_,h,g=>AnsF.app (ds:=ds) h g
 | .ask _::ds,_,_,_,_,_,h,g=>by obtain⟨s,r,rfl,a,h⟩:=h;exact⟨s,_,rfl,a,AnsF.app (ds:=ds) h g⟩
 | .srt _::ds,_,_,_,_,_,h,g=>by obtain⟨s,r,rfl,a,h⟩:=h;exact⟨s,_,rfl,a,AnsF.app (ds:=ds) h g⟩
theorem gF{kd:Str}:∀{ds:List Dd}{ks:List Ky},og kd ks->(∀d∈ds,d.ok kd)->og kd (g5 ks ds)
 | [],_,h,_=>h
 | .row k2::ds,_,_,g=>gF (ds:=ds) (g _ (EL ..)) λd hd=>g d (Eu _ hd)
 | .pour _::ds,_,h,g=>gF (ds:=ds) h λd hd=>g d (Eu _ hd)
 | .ask _::ds,_,h,g=>gF (ds:=ds) h λd hd=>g d (Eu _ hd)
 | .srt _::ds,_,h,g=>gF (ds:=ds) h λd hd=>g d (Eu _ hd)
theorem m9 {ws:List Str}(h:∀w∈ws,w.length<=60) (hn:ws.length<=60):(ws.map (·.length)).sum+ws.length*1<=16777216/\(GF " " ws).length<=Oo:=by
 have e1:=m5 h;refine⟨by lia,?_⟩;rw[Os];show(Gp " " ws).length<=_
 rw[FX];have e2:=Hr " " ws;have e3:((" " : Str)).length=1:=by decide +kernel
 rw[e3]at e2;lia
def tU:Sp:=λvs H Q _=>∃(kd:Str) (a:Addr) (us:List V) (ks:List Ky),vs=[.str kd,.ref a]/\H a=some (.lst us)/\KsW H us ks/\og kd ks/\∀H',Same H H'->Q (.str (wrS (ks.map Ky.word))) H'
theorem jo (T:Tx K mg t):FnOk P t.wd K mg base CX0 3 (t.f 57) (t.d 57) ["kind","keys"] tU:=by
 refine okT (N:=["kind","keys"]) (T.fn 57 rfl) (λH Q hr nd h=>?_)
 ·obtain⟨kd,a,us,ks,rfl,ta,hK,⟨hk,hn⟩,k⟩:=h
  have hul:us.length=ks.length:=hK.1;refine⟨_,(ai (au (aA (kD T) hr (T.fn 58 rfl) (ah (aS (N:=["key","kind"]) (tgs:=["key"]) (frs:=["kind"]) (ix:=[0]) ⟨rfl,by decide +kernel,rfl,by decide +kernel,rfl,rfl,⟨⟨rfl,rfl,_,rfl,rfl⟩,Ek⟩,⟨rfl,Ek⟩,rfl⟩ rfl (aI (K:=K) (qv 1)) (λ_ _ _ _=>(ay (i:=0))) (λ_ _ _ _=>(aA (kC T) hr (T.fn 56 rfl) (ah (qv 1) (ah (qv 0) aa))))) aa)))),?_⟩;dsimp only[st0];nofun;refine⟨a,rfl,⟨_,Oe ta⟩,aN (a:=a) (vs:=us) (λi ys σ H'=>H=H'/\i<=us.length/\ys=((ks.take i).map Ky.word).map Oh/\∃v,σ=[v,some (Oh kd)]) (aq ⋯) (λi ys σ H' h=>by rw[h.2.2.1];simp;lia) (λi ys σ H' h=>h.1▸Oe ta) ⟨rfl,Eo _,rfl,_,rfl⟩ ?_ ?_⟩
  ·rintro i ys σ H1 x hx ⟨rfl,hi,rfl,v,rfl⟩
   have hil:=bq hx;have ek:ks[i]? = some (ks[i]'⋯):=D9 _;have hkm:=hk _ (Ez ek);have hv:=hK.2 i x _ hx ek;generalize ks[i]'⋯=ky at ek hkm hv;nofun;refine⟨kd,x,ky,rfl,hkm,hv,?_⟩;exact Om hil ⟨rfl,hil,by rw[Em,ek,Ef,Ef];rfl,_,rfl⟩
  ·rintro ys σ H1 ⟨rfl,hi,rfl,v,rfl⟩ r hr
   rw[Ee ⋯];obtain⟨H2,e9,s1,tr⟩:=nwR hr (.lst ((ks.map Ky.word).map Oh));rw[e9];nofun;obtain⟨f1,f2⟩:=m9 (ws:=ks.map Ky.word) (λw hw=>by obtain⟨y,hy,rfl⟩:=EC.mp hw;exact fR (hk y hy)) (by rw[Ea];exact hn);exact⟨r,_,rfl,tr,by rw[Ea];lia,f1,f2,λH3 s3=>k H3 (s1.trans s3)⟩
noncomputable def dkF (kd:Str) (b:Int) (la pa:Addr):List (Str×V):=[("kind",.str kd),("base",.int b),("laid",.ref la),("pourings",.ref pa)]
theorem xC:∀x∈([("base" : Str),"laid","pourings"]:List Str),¬(("kind" : Str)=x):=by decide +kernel
theorem Aj:∀x∈([("laid" : Str),"pourings"]:List Str),¬(("base" : Str)=x):=by decide +kernel
theorem Dw:¬(("laid" : Str) = "pourings"):=by decide +kernel
theorem xD (kd:Str) (b:Int) (la pa:Addr):bU "pourings" (.ref pa) (bU "laid" (.ref la) (bU "base" (.int b) (bU "kind" (.str kd) [])))=dkF kd b la pa:=by
 rw[show bU "kind" (.str kd) []=[(("kind" : Str),Oh kd)]from rfl,cn _ _ _ (xC "base" (by simp)),show bU "base" (.int b) []=[(("base" : Str),Og b)]from rfl];rw[cn _ _ _ (xC "laid" (by simp)),cn _ _ _ (Aj "laid" (by simp)),show bU "laid" (.ref la) []=[(("laid" : Str),Oi la)]from rfl];rw[cn _ _ _ (xC "pourings" (by simp)),cn _ _ _ (Aj "pourings" (by simp)),cn _ _ _ Dw];rfl
theorem xE (kd:Str) (b:Int) (la pa l:Addr):bU "laid" (.ref l) (dkF kd b la pa)=dkF kd b l pa:=by
 unfold dkF;rw[cn _ _ _ (xC "laid" (by simp)),cn _ _ _ (Aj "laid" (by simp))];congr 2
theorem ng (kd:Str) (b:Int) (la pa:Addr):(dkF kd b la pa).lookup ("kind" : Str)=some (.str kd):=jc
theorem tV (kd:Str) (b:Int) (la pa:Addr):(dkF kd b la pa).lookup ("base" : Str)=some (.int b):=by unfold dkF;rw[dI (E2 (xC "base" (by simp))),jc]
theorem tW (kd:Str) (b:Int) (la pa:Addr):(dkF kd b la pa).lookup ("laid" : Str)=some (.ref la):=by unfold dkF;rw[dI (E2 (xC "laid" (by simp))),dI (E2 (Aj "laid" (by simp))),jc]
theorem tX (kd:Str) (b:Int) (la pa:Addr):(dkF kd b la pa).lookup ("pourings" : Str)=some (.ref pa):=by unfold dkF;rw[dI (E2 (xC "pourings" (by simp))),dI (E2 (Aj "pourings" (by simp))),dI (E2 Dw),jc]
theorem fU(f:Str)(v:V):∀r:List (Str×V),(bU f v r).length<=r.length+1
 | []=>Ed _
 | (g,x)::r=>by
  have:=fU f v r;rw[bU];split<;>simp<;>lia
theorem KsW.tup{H H1:Hp}{us:List V}{ks:List Ky}(h:KsW H us ks)(s:∀b xs,H b=some (.tup xs)->H1 b=some (.tup xs)):KsW H1 us ks:=⟨h.1,λi v k a b=>Ky.keep (h.2 i v k a b) s⟩
def PsW(H:Hp)(qs:List Addr)(ps:List (List Ky)):Prop:=qs.length=ps.length/\∀(i:Nat) q ks,qs[i]? = some q->ps[i]? = some ks->∃us,H q=some (.lst us)/\KsW H us ks
def CG(C:Addr)(H:Hp)(w:Addr)(kd:Str)(b:Nat)(ks:List Ky)(ps:List (List Ky)):Prop:=∃dx la us pa qs,H w=some (.ins C dx (dkF kd b la pa))/\H la=some (.lst us)/\KsW H us ks/\H pa=some (.lst (qs.map Oi))/\PsW H qs ps
structure DkX (C:Addr) (B H:Hp) (w an dx la pa:Addr) (us:List V) (qs:List Addr) (kd:Str) (b:Nat) (ks:List Ky) (ps:List (List Ky)):Prop where
 ins:H w=some (.ins C dx (dkF kd b la pa))
 lay:H la=some (.lst us)
 key:KsW H us ks
 prs:H pa=some (.lst (qs.map Oi))
 pou:PsW H qs ps
 nan:la≠an
 npa:la≠pa
 npn:pa≠an
 bw:B w=none
 ba:B an=none
 bp:B pa=none
 old:∀q∈qs,∃o,B q=some o
section
variable{t:Ad}{C:Addr}{B H H1:Hp}{w an dx la pa:Addr}{us:List V}{qs:List Addr}{kd:Str}{b:Nat}{ks:List Ky}{ps:List (List Ky)}
theorem DkX.at(h:DkX C B H w an dx la pa us qs kd b ks ps):CG C H w kd b ks ps:=⟨dx,la,us,pa,qs,h.ins,h.lay,h.key,h.prs,h.pou⟩
theorem DkX.keep(h:DkX C B H w an dx la pa us qs kd b ks ps)(s:∀a o,H a=some o->PlO o->H1 a=some o):DkX C B H1 w an dx la pa us qs kd b ks ps:=
 ⟨s _ _ h.ins trivial,s _ _ h.lay trivial,h.key.tup λ_ _ e=>s _ _ e trivial,s _ _ h.prs trivial,⟨h.pou.1,λi q k a c=>by obtain⟨us,e1,e2⟩:=h.pou.2 i q k a c;exact⟨us,s _ _ e1 trivial,e2.tup λ_ _ e=>s _ _ e trivial⟩⟩,h.nan,h.npa,h.npn,h.bw,h.ba,h.bp,h.old⟩
theorem DkX.app(h:DkX C B H w an dx la pa us qs kd b ks ps)(ta:H an=some (.lst xs)):DkX C B (upd H an (.lst ys)) w an dx la pa us qs kd b ks ps:=by
 have tu:∀a zs,H a=some (.tup zs)->(upd H an (.lst ys)) a=some (.tup zs):=λa zs e=>by rw[ar (λz=>by rw[z,ta]at e;cases e)];exact e
 refine⟨by rw[ar (λz=>by have e:=h.ins;rw[z,ta]at e;cases e)];exact h.ins,by rw[ar h.nan];exact h.lay,h.key.tup tu,by rw[ar h.npn];exact h.prs,⟨h.pou.1,λi q k a c=>?_⟩,h.nan,h.npa,h.npn,h.bw,h.ba,h.bp,h.old⟩;obtain⟨us,e1,e2⟩:=h.pou.2 i q k a c;obtain⟨o,e3⟩:=h.old q (Ez a);exact⟨us,by rw[ar (aj e3 h.ba)];exact e1,e2.tup tu⟩
theorem DkX.setl{k2:List Ky}(h:DkX C B H w an dx la pa us qs kd b ks ps)(e:B l=some o)(tl:H l=some (.lst vs))(hk:KsW H vs k2):DkX C B (upd H w (.ins C dx (dkF kd b l pa))) w an dx l pa vs qs kd b k2 ps:=by
 have tu:∀a zs,H a=some (.tup zs)->(upd H w (.ins C dx (dkF kd b l pa))) a=some (.tup zs):=λa zs e=>by rw[ar (λz=>by rw[z,h.ins]at e;cases e)];exact e
 have lu:∀a zs,H a=some (.lst zs)->(upd H w (.ins C dx (dkF kd b l pa))) a=some (.lst zs):=λa zs e=>by rw[ar (λz=>by rw[z,h.ins]at e;cases e)];exact e
 refine⟨af,lu _ _ tl,hk.tup tu,lu _ _ h.prs,⟨h.pou.1,λi q k a c=>?_⟩,aj e h.ba,aj e h.bp,h.npn,h.bw,h.ba,h.bp,h.old⟩;obtain⟨us,e1,e2⟩:=h.pou.2 i q k a c;exact⟨us,lu _ _ e1,e2.tup tu⟩
theorem DkX.add{k2:List Ky}(h:DkX C B H w an dx la pa us qs kd b ks ps)(e:B l=some o)(tl:H l=some (.lst vs))(hk:KsW H vs k2):DkX C B (upd H pa (.lst (qs.map Oi++[.ref l]))) w an dx la pa us (qs++[l]) kd b ks (ps++[k2]):=by
 have tu:∀a zs,H a=some (.tup zs)->(upd H pa (.lst (qs.map Oi++[.ref l]))) a=some (.tup zs):=λa zs e=>by rw[ar (λz=>by rw[z,h.prs]at e;cases e)];exact e
 refine⟨by rw[ar (λz=>by have e:=h.ins;rw[z,h.prs]at e;cases e)];exact h.ins,by rw[ar h.npa];exact h.lay,h.key.tup tu,by rw[af,Ef];rfl,⟨by simp[h.pou.1],λi q k a c=>?_⟩,h.nan,h.npa,h.npn,h.bw,h.ba,h.bp,λq hq=>?_⟩
 ·by_cases hi:i<qs.length
  ·rw[Ep hi]at a
   rw[Ep (by rw[<-h.pou.1];exact hi)]at c;obtain⟨us,e1,e2⟩:=h.pou.2 i q k a c;obtain⟨o,e3⟩:=h.old q (Ez a);exact⟨us,by rw[ar (aj e3 h.bp)];exact e1,e2.tup tu⟩
  ·have e4:i=qs.length:=by
    have:=(Ei.mp a).1;simp at this;lia
   subst e4;rw[Ey (Ed _),Gy]at a;rw[Ey (by rw[h.pou.1];exact Ed _),show qs.length - ps.length=0 by have:=h.pou.1;lia]at c;cases a;cases c;exact⟨vs,by rw[ar (aj e h.bp)];exact tl,hk.tup tu⟩
 ·rcases ET.mp hq with g|g
  ·exact h.old q g
  ·rw[EG.mp g];exact⟨o,e⟩
end
def Ak(C:Addr):Sp:=λvs H Q _=>∃(d dx:Addr) (kd:Str) (b:Nat),vs=[.ref d,.str kd,.int b]/\H d=some (.ins C dx [])/\∀(la pa:Addr) H',H la=none->H pa=none->la≠pa->H' d=some (.ins C dx (dkF kd b la pa))->H' la=some (.lst [])->H' pa=some (.lst [])->(∀c o,H c=some o->c≠d->H' c=some o)->Q .non H'
theorem fJ (T:Tx K mg t):FnOk P t.wd K mg base CX0 1 t.cI t.cH ["self","kind","base"] (Ak t.aH):=by
 have nd:=sc_Desk___init__.nd;refine T.gH.okQ sc_Desk___init__ (λvs H Q E h=>?_) (λcdv A outer s H vs Q E hr h=>?_)
 ·obtain⟨d,dx,kd,b,rfl,_⟩:=h
  rfl
 ·obtain⟨d,dx,kd,b,rfl,ob,k⟩:=h
  refine⟨_,(ae (kb (K:=K) (qv 0) (qv 1))
   (ae (kb (K:=K) (qv 0) (qv 2))
   (ae (kb (K:=K) (qv 0) (aO aa))
   (ai (kb (K:=K) (qv 0) (aO aa)))))),?_⟩
  rw[show L2.start ["self","kind","base"] [Oi d,Oh kd,Og b]=[some (Oi d),some (Oh kd),some (Og b)]from rfl];nofun;refine⟨d,t.aH,dx,_,rfl,ob,T.cT,T.b8,by decide,?_⟩;nofun;refine⟨d,t.aH,dx,_,rfl,af,T.cT,T.cJ,by simp[bU],?_⟩;rw[u7];have o1:(upd H d (.ins t.aH dx (bU "base" (.int b) (bU "kind" (.str kd) [])))) d=some (.ins t.aH dx (bU "base" (.int b) (bU "kind" (.str kd) []))):=af;have k1:∀c o,H c=some o->c≠d->(upd H d (.ins t.aH dx (bU "base" (.int b) (bU "kind" (.str kd) [])))) c=some o:=λc o e n=>by rw[ar n];exact e
  have f1:∀c,(upd H d (.ins t.aH dx (bU "base" (.int b) (bU "kind" (.str kd) [])))) c=none->H c=none:=λc e=>by
   rw[ar (λz=>by rw[z,af]at e;cases e)]at e;exact e
  generalize upd H d (.ins t.aH dx (bU "base" (.int b) (bU "kind" (.str kd) [])))=H1 at o1 k1 f1;nofun;refine⟨ax (by simp),λla hla=>?_⟩;have n1:d≠la:=aj o1 hla;obtain⟨H2,e9,s2,tl⟩:=nwR hla (.lst []);rw[e9];nofun;refine⟨d,t.aH,dx,_,rfl,s2 _ _ o1,T.cT,T.b9,E6 (fU _ _ _) (by simp[bU]),?_⟩;have k3:∀c o,H2 c=some o->c≠d->(upd H2 d (.ins t.aH dx (bU "laid" (.ref la) (bU "base" (.int b) (bU "kind" (.str kd) []))))) c=some o:=λc o e n=>by rw[ar n];exact e
  have o3:(upd H2 d (.ins t.aH dx (bU "laid" (.ref la) (bU "base" (.int b) (bU "kind" (.str kd) []))))) d=some (.ins t.aH dx (bU "laid" (.ref la) (bU "base" (.int b) (bU "kind" (.str kd) [])))):=af;have f3:∀c,(upd H2 d (.ins t.aH dx (bU "laid" (.ref la) (bU "base" (.int b) (bU "kind" (.str kd) []))))) c=none->H2 c=none:=λc e=>by
   rw[ar (λz=>by rw[z,af]at e;cases e)]at e;exact e
  generalize upd H2 d (.ins t.aH dx (bU "laid" (.ref la) (bU "base" (.int b) (bU "kind" (.str kd) []))))=H3 at k3 o3 f3;nofun;refine⟨ax (by simp),λpa hpa=>?_⟩;obtain⟨H4,e9,s4,tp⟩:=nwR hpa (.lst []);rw[e9];have n2:d≠pa:=aj o3 hpa;nofun;refine⟨d,t.aH,dx,_,rfl,s4 _ _ o3,T.cT,T.bI,E6 (fU _ _ _) (E6 (Gw (fU _ _ _)) (by simp[bU])),?_⟩;rw[xD];have k5:∀c o,H4 c=some o->c≠d->(upd H4 d (.ins t.aH dx (dkF kd b la pa))) c=some o:=λc o e n=>by rw[ar n];exact e
  nofun;have hp2:=f3 _ hpa;exact k la pa _ (f1 _ hla) (f1 _ (s2.free hp2)) (λz=>by rw[z,hp2]at tl;cases tl) af (k5 _ _ (s4 _ _ (k3 _ _ tl (E2 n1))) (E2 n1)) (k5 _ _ tp (E2 n2)) λc o e n=>k5 _ _ (s4 _ _ (k3 _ _ (s2 _ _ (k1 _ _ e n)) n)) n
def oh(t:Ad):Sp:=λvs H Q _=>∃(w:Addr) (a:Str) (g:V) (d:Dd) (kd:Str) (b:Nat) (ks:List Ky) (ps:List (List Ky)),vs=[.ref w,.str a,g]/\CG t.aH H w kd b ks ps/\kd∈cS/\2<=b/\b<=64/\og kd ks/\(∀p∈ps,og kd p)/\DdV H a g d/\d.ok kd/\okA d/\Tb t H/\∀(s:Str) H',Sx t H H'->Tb t H'->Ans kd b ks ps d s->Q (.str s) H'
theorem Am{H:Hp}{kd:Str}{ks:List Ky}{us:List V}{os:List Nat}(hK:KsW H us ks)(hP:PutAt H us ys os)(hO:os.Perm (Ej ks.length)):KsW H ys (os.map λo=>ks.getD o (.num 0)):=by
 have hol:os.length=ks.length:=by rw[hO.length_eq,E9]
 refine⟨by rw[Ea,hol,hP.1];exact hK.1,λi v k a b=>?_⟩;have hi:i<os.length:=by have:=(Ei.mp b).1;simpa using this
 have eo:os[i]? = some os[i]:=D9 hi;have ho:os[i]<ks.length:=ER.mp (hO.mem_iff.mp (Es hi));rw[Eh,eo]at b;have ek:ks[os[i]]? = some k:=by
  have b:=EE b;rw[<-b];show ks[os[i]]? = some (ks.getD os[i] (.num 0))
  rw[Eb,D9 ho];rfl
 have eu:us[os[i]]? = some (us[os[i]]'(by rw[hK.1];exact ho)):=D9 _;obtain⟨y,ey,hy⟩:=hP.2 i _ _ eo eu;rw[a]at ey;cases ey;have hv:=hK.2 _ _ _ eu ek;generalize us[os[i]]'(by rw[hK.1];exact ho)=z at hv hy;rcases hy with⟨hy,e⟩|⟨q,u,xs,e,e1,e2,e3,_⟩
 ·rw[e];exact hv
 ·cases k with
  | num n=>rw[show z=.int n from hv]at e;cases e
  | par n b=>
   obtain⟨p,e4,e5⟩:=hv;rw[e4]at e;cases e;rw[e5]at e2;cases e2;exact⟨u,e1,e3⟩
  | txt w=>rw[show z=.str w from hv]at e;cases e
def xF(t:Ad):Sp:=λvs H Q _=>∃(w:Addr) (a kd:Str) (b:Nat) (ks:List Ky) (ps:List (List Ky)),vs=[.ref w,.str a]/\CG t.aH H w kd b ks ps/\kd∈cS/\2<=b/\b<=64/\og kd ks/\a∈wayL/\∀(os:List Nat) H',Same H H'->KyOrd kd ks os->Q (.str (wrS (os.map (cO ks)))) H'
theorem g6 (T:Tx K mg t):FnOk P t.wd K mg base CX0 6 (t.f 64) (t.d 64) ["desk","way"] (xF t):=by
 refine okT (N:=["desk","way"]) (T.fn 64 rfl) (λH Q hr nd h=>?_)
 ·obtain⟨w,a,kd,b,ks,ps,rfl,⟨dx,la,us,pa,qs,e1,e2,hK,_⟩,hkd,hb2,hb64,hk,ha,k⟩:=h
  obtain⟨k1,k2,k3,k4⟩:=CF hkd hK hk;refine⟨_,(ai (au (aA (jo T) hr (T.fn 57 rfl) (ah (ka (K:=K) (qv 0)) (ah (aJ (fE (K:=K)) (aA (n6 T) hr (T.fn 47 rfl) (ah (qv 1) (ah (ka (K:=K) (qv 0)) (ah (ka (K:=K) (qv 0)) (ah (ka (K:=K) (qv 0)) aa))))) ag) aa))))),?_⟩;dsimp only[st0];nofun;refine⟨w,t.aH,dx,_,_,rfl,e1,T.cT,T.b8,ng _ _ _ _,?_⟩;nofun;refine⟨w,t.aH,dx,_,_,rfl,e1,T.cT,T.b8,ng _ _ _ _,?_⟩;nofun;refine⟨w,t.aH,dx,_,_,rfl,e1,T.cT,T.b9,tW _ _ _ _,?_⟩;nofun;refine⟨w,t.aH,dx,_,_,rfl,e1,T.cT,T.cJ,tV _ _ _ _,?_⟩;nofun;refine⟨a,ju kd ks,us,la,b,by rw[k1];rfl,by simpa [wayL]using ha,e2,k2,k3,hb2,hb64,λx l o os ys m rss wd by' H1 s1 tx to tl hP hR hO=>?_⟩;have hky:=hO.ky (hR.lt k3 hb2 hb64) k4;nofun;have hK1:=Am (kd:=kd) (hK.same s1) hP hky.1;refine⟨kd,l,ys,_,rfl,tl,hK1,⟨λy hy=>?_,by rw[Ea,hky.1.length_eq,E9];exact hk.2⟩,λH2 s2=>?_⟩
  ·obtain⟨o,ho,rfl⟩:=EC.mp hy
   have hlt:=ER.mp (hky.1.mem_iff.mp ho);rw[Eb,D9 hlt];exact hk.1 _ (Es hlt)
  ·rw[FD]
   exact k os H2 (s1.trans s2) hky
theorem lV (T:Tx K mg t):FnOk P t.wd K mg base CX0 7 (t.f 79) (t.d 79) ["desk","ask","way"] (oh t):=by
 refine okT (N:=["desk","ask","way","answer"]) (T.fn 79 rfl) (λH Q hr nd h=>?_)
 ·obtain⟨w,a,g,d,kd,b,ks,ps,rfl,hD,hkd,hb2,hb64,hk,hp,hv,hd,hA,hT,k⟩:=h
  refine⟨_,(ae (a8 (av fz (qv 1) aB (aw _)) (ai (au (aA (g6 T) hr (T.fn 64 rfl) (ah (qv 0) (ah (qv 2) aa))))) aG)
   (ae c8
   (ai c8))),?_⟩
  dsimp only[st0];cases d with
  | srt y=>
   obtain⟨rfl,rfl⟩:=hv;nofun;rw[decide_eq_true rfl];nofun;exact⟨w,y,kd,b,ks,ps,rfl,hD,hkd,hb2,hb64,hk,hd,λos H1 s1 hO=>k _ H1 (Sx.of s1) (hT.same s1) ⟨os,hO,rfl⟩⟩
  | row ks=>exact hA.elim
  | pour ks=>exact hA.elim
  | ask y=>exact hA.elim
def CH(t:Ad):Sp:=λvs H Q _=>∃(text:Str) (rows:List Str) (kd:Str) (b:Nat) (ds:List Dd),vs=[.str text]/\TextOk text rows kd b ds/\Tb t H/\(∀d∈ds,d.deed\/okA d)/\∀(x:Addr) (as:List Str) H',Sx t H H'->Tb t H'->H' x=some (.lst (as.map Oh))->AnsF kd b [] [] ds as->Q (.ref x) H'
theorem eZ{kd:Str}:∀{ds:List Dd}{ps:List (List Ky)},(∀p∈ps,og kd p)->(∀d∈ds,d.ok kd)->∀p∈dB ps ds,og kd p
 | [],_,h,_=>h
 | .row k2::ds,_,h,g=>eZ (ds:=ds) h λd hd=>g d (Eu _ hd)
 | .pour k2::ds,_,h,g=>eZ (ds:=ds) (λp hp=>by
   have:=g _ (EL ..);rcases ET.mp hp with z|z
   ·exact h p z
   ·rw[EG.mp z];exact⟨this.1,this.2.1⟩) λd hd=>g d (Eu _ hd)
 | .ask _::ds,_,h,g=>eZ (ds:=ds) h λd hd=>g d (Eu _ hd)
 | .srt _::ds,_,h,g=>eZ (ds:=ds) h λd hd=>g d (Eu _ hd)
theorem c5:∀(ds:List Dd) (ps:List (List Ky)),(dB ps ds).length<=ps.length+ds.length
 | [],_=>Ed _
 | .row _::ds,ps=>E5 (c5 ds ps) (by simp)
 | .pour k::ds,ps=>E5 (c5 ds (ps++[k])) (by simp;lia)
 | .ask _::ds,ps=>E5 (c5 ds ps) (by simp)
 | .srt _::ds,ps=>E5 (c5 ds ps) (by simp)
theorem An {H:Hp}{w:Str}{g:V}{d:Dd}(h:DdV H w g d) (hd:d.ok kd) (hn:¬d.deed):¬w = "row"/\¬w = "pour":=by
 cases d with
 | row ks=>exact(hn trivial).elim
 | pour ks=>exact(hn trivial).elim
 | ask a=>
  obtain⟨rfl,_⟩:=h;exact⟨λz=>absurd (GO.mpr hd) (by rw[z,kG.1];decide),λz=>absurd (GO.mpr hd) (by rw[z,kG.2];decide)⟩
 | srt a=>rw[h.1];decide +kernel
theorem u4 (T:Tx K mg t):FnOk P t.wd K mg base CX0 9 (t.f 80) (t.d 80) ["text"] (CH t):=by
 refine okT (N:=["text","kind","base","deeds","desk","answers","word","given"]) (T.fn 80 rfl) (λH Q hr nd h=>?_)
 ·obtain⟨text,rows,kd,b,ds,rfl,hok,hT,hds,k⟩:=h
  refine⟨_,(ae (cv (aA (kI T) hr (T.fn 78 rfl) (ah (qv 0) aa)) (bo (K:=K) (n:=2) rfl (ao (bo (K:=K) (n:=2) rfl (ao (ay (i:=1)) (ao (ay (i:=2)) aQ))) (ao (ay (i:=3)) aQ))))
   (ae (aD (i:=4) (wK T.gI (fJ T) (hr.mono (by decide)) rfl T.xU T.gK jI (ah (qv 1) (ah (qv 2) aa))))
   (ae (aD (i:=5) (aO aa))
   (ae (bX EM rfl (aI (K:=K) (qv 3)) (bo (K:=K) (n:=2) rfl (ao (ay (i:=6)) (ao (ay (i:=7)) aQ))) (ai (a8 (av fz (qv 6) aB (aw _)) (ai (kb (K:=K) (qv 4) (qv 7))) (ai (a8 (av fz (qv 6) aB (aw _)) (ai (bC (bf (K:=K) (ka (K:=K) (qv 4)) (ah (qv 7) aa)))) (ai (bC (bf (K:=K) (qv 5) (ah (aA (lV T) hr (T.fn 79 rfl) (ah (qv 4) (ah (qv 6) (ah (qv 7) aa)))) aa)))))))))
   (ai (au (qv 5))))))),?_⟩
  dsimp only[st0];nofun;refine⟨text,rows,kd,b,ds,rfl,hok,λx h d us H1 s1 tx th td D=>?_⟩;refine⟨x,_,rfl,Of tx,rfl,_,_,rfl,aY th ?_⟩;dsimp only[E4];refine⟨_,_,rfl,rfl,?_⟩;dsimp only[E4];nofun;intro w dx hw hdx hne;have sN:Same H1 (upd (upd H1 dx (.own w)) w (.ins t.aH dx [])):=λb u e=>by
   rw[ar (aj e hw),ar (aj e hdx)];exact e
  refine⟨w,dx,kd,b,rfl,af,λla pa H2 hla hpa nlp hd tla tpa kp=>⟨rfl,?_⟩⟩;have s2:Same H1 H2:=λc o e=>kp _ _ (sN _ _ e) (aj e hw)
  have hla:=sN.free hla;have hpa:=sN.free hpa;nofun;refine⟨ax (by simp),λan han=>?_⟩;have s3:=(Oj H2).new (o:=.lst []) han;have ta:(upd H2 an (.lst [])) an=some (.lst (([]:List Str).map Oh)):=af;have hand:H1 an=none:=s2.free han;have X3:DkX t.aH H1 (upd H2 an (.lst [])) w an dx la pa [] [] kd b [] []:=⟨s3 _ _ hd,s3 _ _ tla,⟨rfl,λi v k a=>by simp at a⟩,s3 _ _ tpa,⟨rfl,λi q k a=>by simp at a⟩,aj tla han,nlp,aj tpa han,hw,hand,hpa,λq hq=>nomatch hq⟩;generalize upd H2 an (.lst [])=H3 at s3 ta X3;have s13:=s2.trans s3;have hul:us.length=ds.length:=D.1;have hT1:=hT.same s1;have hT3:=hT1.same s13;have hdl:ds.length<=200:=by
   have e1:=congrArg Gq hok.all;have e2:=JW (λr:Str=>decide (¬r = "")) rows;have:=hok.few;simp only[EB,Ea]at e1;lia
  nofun;refine⟨d,rfl,⟨_,Oe (s13 _ _ td)⟩,cK (a:=d) (xs:=us.map Oi) (λi σ H'=>Sx t H1 H'/\Tb t H'/\(∃la us qs,DkX t.aH H1 H' w an dx la pa us qs kd b (g5 [] (ds.take i)) (dB [] (ds.take i)))/\(∃as:List Str,H' an=some (.lst (as.map Oh))/\as.length<=i/\AnsF kd b [] [] (ds.take i) as)/\∃v1 v2,σ=[some (Oh text),some (Oh kd),some (Og b),some (Oi d),some (Oi w),some (Oi an),v1,v2]) ⟨Sx.of s13,hT3,⟨_,_,_,X3⟩,⟨[],ta,Ed _,rfl⟩,_,_,rfl⟩ (λi σ H' _ h=>Oe (h.1.at hT1 td trivial)) ?_ ?_⟩
  ·rintro i x σ H4 hx ⟨s4,T4,⟨la,us',qs',X4⟩,⟨as,ta4,hal,hAn⟩,v1,v2,rfl⟩
   obtain⟨q,rfl,eq,_,hi⟩:=aF hx;have edd:ds[i]? = some (ds[i]'⋯):=D9 _;have hmem:=Ez edd;have hdk:=hok.ok _ hmem;obtain⟨wd,g,e1,e2⟩:=D.2 i q _ eq edd;have e1:=s4.at hT1 e1 trivial;have hd0:=hds _ hmem;have etk:ds.take (i+1)=ds.take i++[ds[i]'⋯]:=by rw[Em,edd];rfl
   generalize ds[i]'⋯=dd at edd hdk e2 hd0 etk;rw[etk];refine aY e1 ?_;dsimp only[E4];nofun;by_cases hnd:dd.deed
   rotate_left
   ·obtain⟨nr,np⟩:=An e2 hdk hnd
    rw[decide_eq_false λu=>nr (Oh.inj u)];nofun;rw[decide_eq_false λu=>np (Oh.inj u)];nofun;refine⟨br ta4,?_⟩;nofun;have e2':DdV H4 wd g dd:=by
     cases dd with
     | row ks=>exact(hnd trivial).elim
     | pour ks=>exact(hnd trivial).elim
     | ask a=>exact e2
     | srt a=>exact e2
    refine⟨w,wd,g,dd,kd,b,_,_,rfl,X4.at,hok.kdm,hok.b2,hok.b64,gF ⟨(λk hk=>nomatch hk),Eo _⟩ (λd hd=>hok.ok d (F4 hd)),eZ (λp hp=>nomatch hp) (λd hd=>hok.ok d (F4 hd)),e2',hdk,hd0.resolve_left hnd,T4,λs H5 s5 T5 hA=>?_⟩;have ta5:=s5.at T4 ta4 trivial;have X5:=X4.keep λa o e ho=>s5.at T4 e ho
    nofun;refine aW ta5 (by rw[Ea];exact aq ⋯) ?_;nofun;refine⟨(s4.trans s5).own hT1 X4.ba,T5.upd ta5 trivial,⟨la,us',qs',?_⟩,⟨as++[s],by rw[af,Ef];rfl,by simp;lia,?_⟩,_,_,rfl⟩
    ·rw[cG,b7]
     have:=X5.app (ys:=as.map Oh++[Oh s]) ta5;cases dd with
     | row ks=>exact(hnd trivial).elim
     | pour ks=>exact(hnd trivial).elim
     | ask a=>exact this
     | srt a=>exact this
    ·refine hAn.app ?_
     cases dd with
     | row ks=>exact(hnd trivial).elim
     | pour ks=>exact(hnd trivial).elim
     | ask a=>exact⟨s,[],rfl,hA,rfl⟩
     | srt a=>exact⟨s,[],rfl,hA,rfl⟩
   cases dd with
   | row k2=>
    obtain⟨rfl,l,vs,rfl,e3,e4⟩:=e2;rw[decide_eq_true rfl];nofun;refine⟨w,t.aH,dx,_,rfl,X4.ins,T.cT,T.b9,by simp[dkF],?_⟩;rw[xE];have X5:=X4.setl e3 (s4.at hT1 e3 trivial) (e4.tup λ_ _ e=>s4.at hT1 e trivial);have naw:an≠w:=λz=>by have:=X4.ins;rw[<-z,ta4]at this;cases this
    nofun;refine⟨s4.own hT1 X4.bw,T4.upd X4.ins trivial,⟨l,vs,qs',by rw[cG,b7];exact X5⟩,⟨as,by rw[ar naw];exact ta4,by lia,?_⟩,_,_,rfl⟩
    ·have:=hAn.app (es:=[.row k2]) (bs:=[]) rfl
     rwa [Fl]at this
   | pour k2=>
    obtain⟨rfl,l,vs,rfl,e3,e4⟩:=e2;rw[decide_eq_false (show ¬Oh "pour" = Oh "row" from λz=>absurd (Oh.inj z) (by decide +kernel))];nofun;rw[decide_eq_true rfl];nofun;refine⟨w,t.aH,dx,_,_,rfl,X4.ins,T.cT,T.bI,tX _ _ _ _,?_⟩;nofun;refine⟨br X4.prs,?_⟩;nofun;have hq:=c5 (ds.take i) [];rw[<-X4.pou.1,EI,Fe]at hq;refine aW X4.prs (by rw[Ea];exact aq ⋯) ?_;have X5:=X4.add e3 (s4.at hT1 e3 trivial) (e4.tup λ_ _ e=>s4.at hT1 e trivial);nofun;refine⟨s4.own hT1 X4.bp,T4.upd X4.prs trivial,⟨la,us',qs'++[l],by rw[cG,b7];exact X5⟩,⟨as,by rw[ar (E2 X4.npn)];exact ta4,by lia,?_⟩,_,_,rfl⟩
    ·have:=hAn.app (es:=[.pour k2]) (bs:=[]) rfl
     rwa [Fl]at this
   | ask a=>exact hnd.elim
   | srt a=>exact hnd.elim
  ·rintro σ H4 ⟨s4,T4,_,⟨as,ta4,_,hAn⟩,v1,v2,rfl⟩
   rw[Ea,hul,Ee (Ed _)]at hAn;nofun;exact k an as H4 ((Sx.of s1).trans s4) T4 ta4 hAn
def xG:Sp:=λvs H Q _=>∃(p:Addr),vs=[.ref p]/\Tape H p/\∀(r:Nat) H',r<=12->Stp p H H'->Q (.int r) H'
theorem xH (T:Tx K mg t):FnOk P t.wd K mg base CX0 2 (t.f 83) (t.d 83) ["_law_tape_here"] xG:=by
 refine okT (N:=["_law_tape_here"]) (T.fn 83 rfl) (λH Q hr nd h=>?_)
 ·obtain⟨p,rfl,hT,k⟩:=h
  refine⟨_,(ai (au (aJ (a9 (K:=K)) (aO (ah (aA (bx T) hr (T.fn 82 rfl) (ah (qv 0) (ah ag aa))) (ah (az cW ag (aA (bx T) hr (T.fn 82 rfl) (ah (qv 0) (ah ag aa)))) aa))) (aM ph (by rfl) T.kN kh (ah (c6 fz (aA (bx T) hr (T.fn 82 rfl) (ah (qv 0) (ah ag aa))) ag (aw _)) aa))))),?_⟩;dsimp only[st0];nofun;refine⟨p,7,rfl,hT,by decide,by decide,λr1 H1 a0 a1 S1=>?_⟩;nofun;refine⟨p,6,rfl,S1.tape,by decide,by decide,λr2 H2 b0 b1 S2=>?_⟩;nofun;refine⟨ax (by simp),λq hq=>?_⟩;nofun;have S12:=S1.trans S2;refine⟨p,8,rfl,(S12.new hq).tape,by decide,by decide,λr3 H3 c0 c1 S3=>?_⟩;nofun;obtain⟨v,e,hv⟩:=dY (xs:=[Og r1,Og (7+r2)]) (r:=if decide (Og r3=Og 0)=true then 1 else 0) (by split<;>lia) (by simp only[EB,Fe];split<;>lia);refine bz (Oe (S3.keep q _ af (S12.tape.ne hq))) e ?_;simp only[EA,EZ,or_false]at hv;rcases hv with rfl|rfl
  ·have:=k r1.toNat H3 ⋯ ((S12.new hq).trans S3)
   rw[G1 a0]at this;exact this
  ·have:=k (7+r2).toNat H3 ⋯ ((S12.new hq).trans S3)
   rw[G1 ⋯]at this;exact this
noncomputable def BIG:Int:=9690712164777231700912800
noncomputable def Ky.worth:Ky->V
 | .num n=>.int n
 | .par n b=>.int (n*(BIG / b))
 | .txt w=>.str w
theorem xI{x:Int}{g:Nat}(hc:0<c)(e:g=F6 x.natAbs c):F6 (x / (g:Int)).natAbs (c / g)=1/\(x / (g:Int)).natAbs<=x.natAbs/\0<g/\g∣c:=by
 have hd1:g∣x.natAbs:=by rw[e];exact Lf ..
 have hd2:g∣c:=by rw[e];exact IX ..
 have hg:0<g:=Nat.pos_of_dvd_of_pos hd2 hc;obtain⟨y,hy⟩:=Int.ofNat_dvd_left.mpr hd1;have hy':x / (g:Int)=y:=by rw[hy];exact Int.mul_ediv_cancel_left _ ⋯
 have hn:x.natAbs=g*y.natAbs:=by rw[hy,Mb,IB]
 refine⟨?_,?_,hg,hd2⟩
 ·rw[hy']
  have e2:y.natAbs=x.natAbs / g:=by rw[hn,Hh _ hg]
  rw[e2,e];exact Nat.coprime_div_gcd_div_gcd (by rw[<-e];exact hg)
 ·rw[hy',hn]
  exact Nat.le_mul_of_pos_left _ hg
theorem mul_one(z:Str):MulOk z 1/\Jb z 1=z:=⟨⟨by decide,λ_ h=>absurd h (by simp),λ_ h=>absurd h (by simp)⟩,by unfold Jb;rw[if_neg (by decide),if_pos (by simp)]⟩
theorem xJ(z:Str):MulOk z 0/\Jb z 0=Ge:=⟨⟨by decide,λh=>absurd (by decide) h,λh=>absurd (by decide) h⟩,by unfold Jb;rw[if_pos (by decide)]⟩
theorem qH(x:Str):x++Ge=x:=bO (by show(x.cps++#[]).toList=_;simp)
def xK:Sp:=λvs H Q _=>∃(n:Int) (c:Nat),vs=[.int n,.int c]/\1<=c/\c<=60/\n.natAbs<10 ^ 18/\∀(q:Addr) (n' b':Int),fC n' b'->H q=none->Q (.ref q) (upd H q (.tup [.str (dA n' b'),.int (n'*(BIG / b'))]))
theorem xM (T:Tx K mg t):FnOk P t.wd K mg base CX0 1 (t.f 86) (t.d 86) ["_law_top","_law_bottom"] xK:=by
 refine okT (N:=["_law_top","_law_bottom","_law_one","_law_other"]) (T.fn 86 rfl) (λH Q hr nd h=>?_)
 ·obtain⟨x,c,rfl,h1,h60,hx,q⟩:=h
  refine⟨_,(ae (jM rfl nd (i:=2) (j:=3) rfl rfl (by decide) rfl rfl (ah (ak mj (by rfl) T.lZ mR (ah (qv 0) aa)) (ah (qv 1) aa)))
   (ae (c9 EM (av lp (qv 3) ag (aw _)) (ai (jM rfl nd (i:=2) (j:=3) rfl rfl (by decide) rfl rfl (ah (qv 3) (ah (az gS (qv 2) (qv 3)) aa)))))
   (ae (jM rfl nd (i:=0) (j:=1) rfl rfl (by decide) rfl rfl (ah (az da (qv 0) (qv 2)) (ah (az da (qv 1) (qv 2)) aa)))
   (ai (au (aU (ah (az cm (aM gz (by rfl) T.fK eV (ah (qv 0) aa)) (az uK (az cm aB (aM gz (by rfl) T.fK eV (ah (qv 1) aa))) (aM ph (by rfl) T.kN kh (ah (c6 lp (qv 1) ag (aw _)) aa)))) (ah (az fe (qv 0) (az da ag (qv 1))) aa)))))))),?_⟩
  dsimp only[st0];nofun;have ea:(if x<0 then -x else x)=((x.natAbs:Nat):Int):=by split<;>lia
  try rw[ea]
  refine⟨λm σ H'=>H'=H/\∃(g l:Nat),σ=[some (Og x),some (Og c),some (Og g),some (Og l)]/\F6 g l=F6 x.natAbs c/\l=m,⟨c,rfl,x.natAbs,c,rfl,rfl,rfl⟩,?_⟩;rintro m σ H' ⟨rfl,g,l,rfl,e,rfl⟩;nofun;refine aP (λh1=>?_) (λh1=>?_)
  ·refine⟨_,λ_ _ z=>z,?_⟩
   nofun;have hl:0<l:=by lia
   rw[<-Jn];exact⟨g % l,Ig _ hl,rfl,l,g % l,rfl,by rw[mw hl,e],rfl⟩
  ·have hl:l=0:=by lia
   subst hl;rw[KC]at e;obtain⟨f1,f2,hg,hd2⟩:=xI (x:=x) (by lia:0<c) e;nofun;have hgc:g<=c:=II ⋯ hd2;have hlog:oZ x (g:Int):=⟨by lia,E6 (Lr _) ⋯⟩;have hlog2:oZ (c:Int) (g:Int):=⟨by lia,E6 (Lr _) ⋯⟩;refine C1 hlog ?_;nofun;rw[<-Gb];have hb1:0<c / g:=Nat.div_pos hgc hg;have hb2:c / g<=60:=E5 (LO ..) h60;have hP:fC (x / (g:Int)) ((c / g:Nat):Int):=⟨by lia,by lia,by lia,by rw[IB];exact f1⟩;have hN:(x / (g:Int)).natAbs<10 ^ 18:=by lia
   generalize x / (g:Int)=n' at hN hP;generalize c / g=b' at hb1 hb2 hP;refine⟨n',rfl,lQ hN,?_⟩;nofun;refine⟨(b':Int),rfl,lQ ⋯,?_⟩;nofun;refine⟨_,_,rfl,rfl,by rw[Os];have:=cF (n:=(b':Int)) ⋯;have e1:(("/" : Str)).length=1:=(by decide +kernel);lia,?_⟩;nofun;have hl1:=cF hN;have hl2:=cF (n:=(b':Int)) ⋯;have e1:(("/" : Str)).length=1:=by decide +kernel
   by_cases hb:1<b'
   ·obtain⟨m1,m2⟩:=mul_one (EU "/"++EU (toString (b':Int)))
    refine⟨_,1,rfl,by rw[decide_eq_true (show(1:Int)<(b':Int)by lia)];rfl,m1,?_⟩;rw[m2];refine⟨_,_,rfl,rfl,by rw[Os,OA];lia,?_⟩;nofun;refine⟨ax (by simp),λp hp=>?_⟩;have:=q p n' b' hP hp;unfold dA at this;rw[if_neg ⋯]at this;rw[<-FR];exact this
   ·obtain rfl:b'=1:=by lia
    obtain⟨m1,m2⟩:=xJ (EU "/"++EU (toString ((1:Nat):Int)));refine⟨_,0,rfl,rfl,m1,?_⟩;rw[m2];refine⟨_,_,rfl,rfl,by rw[Os];show _+0<=_;lia,?_⟩;rw[qH];nofun;refine⟨ax (by simp),λp hp=>?_⟩;have:=q p n' 1 hP hp;unfold dA at this;rw[if_pos rfl]at this;exact this
noncomputable def stems:List Str:=["","a","ab","abc","z","zz","b",Jb "m" 19]
noncomputable def tails:List Str:=["","a","z","xy"]
noncomputable instance (w:Str):Decidable (iE w):=by unfold iE;infer_instance
theorem oi:∀s∈stems,∀y∈tails,iE (JA (s++y) none (some 20))/\(s++y).length<=30:=by decide +kernel
def Ao:Sp:=λvs H Q _=>∃(p:Addr) (kd:Str),vs=[.ref p,.str kd]/\Tape H p/\kd∈cS/\∀(q:Addr) (k:Ky) H',k.ok kd->Stp p H H'->H' q=some (.tup [.str k.word,k.worth])->Q (.ref q) H'
theorem Ap (T:Tx K mg t):FnOk P t.wd K mg base CX0 2 (t.f 85) (t.d 85) ["_law_tape_here","_law_kind"] Ao:=by
 refine okT (N:=["_law_tape_here","_law_kind","_law_stem","_law_word","_law_way","_law_top"]) (T.fn 85 rfl) (λH Q hr nd h=>?_)
 ·obtain⟨p,kd,rfl,hT,hkd,k⟩:=h
  refine⟨_,(ae (a8 (av fz (qv 1) aB (aw _)) (ae (aD (i:=2) (aJ (a9 (K:=K)) (aO (ah aB (ah aB (ah aB (ah aB (ah aB (ah aB (ah aB (ah (az uK aB ag) aa))))))))) (aA (bx T) hr (T.fn 82 rfl) (ah (qv 0) (ah ag aa)))))
   (ae (aD (i:=3) (bL zH (az cm (qv 2) (aJ (a9 (K:=K)) (aO (ah aB (ah aB (ah aB (ah aB aa))))) (aA (bx T) hr (T.fn 82 rfl) (ah (qv 0) (ah ag aa))))) fc (bE ag)))
   (ai (au (aU (ah (az cm aB (qv 3)) (ah (qv 3) aa))))))) aG)
   (ae (aD (i:=4) (aA (bx T) hr (T.fn 82 rfl) (ah (qv 0) (ah ag aa))))
   (ae (aD (i:=5) (az fe (aA (bx T) hr (T.fn 82 rfl) (ah (qv 0) (ah ag aa))) (aJ (a9 (K:=K)) (aO (ah ag (ah (lj lq ag) aa))) (aA (bx T) hr (T.fn 82 rfl) (ah (qv 0) (ah ag aa))))))
   (ae (a8 (av fz (qv 4) ag (aw _)) (ai (aD (i:=5) (az fe (az dn (az dn (az wk ag ag) ag) (aA (bx T) hr (T.fn 82 rfl) (ah (qv 0) (ah ag aa)))) (aJ (a9 (K:=K)) (aO (ah ag (ah (lj lq ag) aa))) (aA (bx T) hr (T.fn 82 rfl) (ah (qv 0) (ah ag aa))))))) aG)
   (ae (a8 (av fz (qv 4) ag (aw _)) (ai (aD (i:=5) (az dn (aA (bx T) hr (T.fn 82 rfl) (ah (qv 0) (ah (az wk ag ag) aa))) ag))) aG)
   (ae (a8 (av fz (qv 1) aB (aw _)) (ai (au (aU (ah (aM gz (by rfl) T.fK eV (ah (qv 5) aa)) (ah (qv 5) aa))))) aG)
   (ai (au (aA (xM T) hr (T.fn 86 rfl) (ah (qv 5) (ah (aJ (a9 (K:=K)) (aO (ah ag (ah ag (ah ag (ah (az cW ag (aA (bx T) hr (T.fn 82 rfl) (ah (qv 0) (ah ag aa)))) (ah ag aa)))))) (aA (bx T) hr (T.fn 82 rfl) (ah (qv 0) (ah ag aa)))) aa))))))))))),?_⟩
  dsimp only[st0];nofun;by_cases htx:kd = "text"
  ·subst htx
   rw[decide_eq_true rfl];nofun;refine⟨_,19,rfl,rfl,⟨by decide +kernel,by decide +kernel,by decide +kernel⟩,?_⟩;nofun;refine⟨ax (by simp),λq hq=>?_⟩;have S1:=(Stp.refl hT).new (o:=.lst (stems.map Oh)) hq;nofun;refine⟨p,8,rfl,S1.tape,by decide,by decide,λr H1 a0 a1 S2=>?_⟩;obtain⟨v,e,hv⟩:=dY (xs:=stems.map Oh) a0 a1;refine bz (Oe (S2.keep q _ af (hT.ne hq))) e ?_;obtain⟨z,hz,rfl⟩:=EC.mp hv;have S3:=S1.trans S2;clear S1 S2 e hv a0 a1;nofun;refine⟨ax (by simp),λq hq=>?_⟩;have S4:=S3.new (o:=.lst (tails.map Oh)) hq;nofun;refine⟨p,4,rfl,S4.tape,by decide,by decide,λr H2 a0 a1 S5=>?_⟩;obtain⟨v,e,hv⟩:=dY (xs:=tails.map Oh) a0 a1;refine bz (Oe (S5.keep q _ af (S3.tape.ne hq))) e ?_;obtain⟨y,hy,rfl⟩:=EC.mp hv;have S6:=S4.trans S5;clear S4 S5 e hv a0 a1;obtain⟨f1,f2⟩:=oi z hz y hy;refine⟨_,_,rfl,rfl,by rw[Os,<-OA];lia,?_⟩;nofun;refine⟨20,rfl,?_⟩;refine⟨_,rfl,by rw[Os];lia,?_⟩;generalize JA (z++y) none (some 20)=wd at f1;nofun;have e1:(("'" : Str)).length=1:=by decide +kernel
   refine⟨_,_,rfl,rfl,by rw[Os];have:=f1.1;lia,?_⟩;nofun;exact⟨ax (by simp),λq hq=>k q (.txt wd) _ ⟨rfl,f1⟩ (S6.new hq) af⟩
  have hkd':kd = "number"\/kd = "part":=by rcases fT hkd with h | h | h;exact .inl h;exact .inr h;exact(htx h).elim
  rw[decide_eq_false λu=>htx (Oh.inj u)];nofun;refine⟨p,6,rfl,hT,by decide,by decide,λwy H1 w0 w1 S1=>?_⟩;nofun;refine⟨p,9,rfl,S1.tape,by decide,by decide,λa H2 a0 a1 S2=>?_⟩;nofun;have S12:=S1.trans S2;have sgn:∀{H3 H4:Hp}{q:Addr}{r:Int},Stp p H H3->H3 q=none->0<=r->r<2->Stp p (upd H3 q (.lst [Og 1,Og (-1)])) H4->∃z:Int,(z=1\/z=-1)/\H4 q=some (.lst [Og 1,Og (-1)])/\atI [Og 1,Og (-1)] r=some (Og z)/\Stp p H H4:=λ{H3 H4 q r} S hq r0 r1 S'=>by
   obtain⟨v,e,hv⟩:=dY (xs:=[Og 1,Og (-1)]) r0 r1;simp only[EA,EZ,or_false]at hv;rcases hv with rfl|rfl
   ·exact⟨1,.inl rfl,S'.keep q _ af (S.tape.ne hq),e,(S.new hq).trans S'⟩
   ·exact⟨-1,.inr rfl,S'.keep q _ af (S.tape.ne hq),e,(S.new hq).trans S'⟩
  refine⟨ax (by simp),λq hq=>?_⟩;nofun;refine⟨p,2,rfl,(S12.new hq).tape,by decide,by decide,λr H3 r0 r1 S3=>?_⟩;obtain⟨z,hz,tz,ez,S4⟩:=sgn S12 hq r0 r1 S3;refine bz (Oe tz) ez ?_;nofun;apply wt (α:=Int) (S:=λn H'=>n.natAbs<10 ^ 18/\Stp p H H');case hA=>
   intro key;by_cases hw:wy=0
   ·rw[decide_eq_true (congrArg Og hw)]
    nofun;refine⟨p,3,rfl,S4.tape,by decide,by decide,λb H5 b0 b1 S5=>?_⟩;nofun;refine⟨ax (by simp),λq2 hq2=>?_⟩;nofun;have S6:=S4.trans S5;refine⟨p,2,rfl,(S6.new hq2).tape,by decide,by decide,λr2 H7 c0 c1 S7=>?_⟩;obtain⟨z2,hz2,tz2,ez2,S8⟩:=sgn S6 hq2 c0 c1 S7;refine bz (Oe tz2) ez2 ?_;nofun;have hb:((1000000000000000000 - 1 - b)*z2).natAbs<10 ^ 18:=by rcases hz2 with rfl|rfl<;>lia
    generalize e7:(1000000000000000000 - 1 - b)*z2=n at hb;generalize e8:H7=H4;exact key n H4 ⟨hb,e8▸S8⟩
   ·rw[decide_eq_false λu=>hw (Og.inj u)]
    nofun;have hb:(a*z).natAbs<10 ^ 18:=by rcases hz with rfl|rfl<;>lia
    generalize e7:a*z=n at hb;generalize e8:H3=H4;exact key n H4 ⟨hb,e8▸S4⟩
  case hB=>
   clear S1 S2 S12 S3 S4 tz ez hz;rintro n H4 ⟨hn,S4⟩;apply wt (α:=Int) (S:=λn H'=>n.natAbs<10 ^ 18/\Stp p H H');case hA=>
    intro key;by_cases hw:wy=1
    ·rw[decide_eq_true (congrArg Og hw)]
     nofun;refine⟨p,_,rfl,S4.tape,by decide,by decide,λb H5 b0 b1 S5=>?_⟩;have b1:b<10 ^ 6:=b1;nofun;have hb:(b - 500000).natAbs<10 ^ 18:=by lia
     generalize e7:b - 500000=n at hb;generalize e8:H5=H6;exact key n H6 ⟨hb,e8▸S4.trans S5⟩
    ·rw[decide_eq_false λu=>hw (Og.inj u)]
     nofun;generalize e7:n=n2;generalize e8:H4=H6;exact key n2 H6 ⟨e7▸hn,e8▸S4⟩
   case hB=>
    clear S4 hn;rintro n H4 ⟨hn,S4⟩;nofun;rcases hkd' with rfl|rfl
    ·rw[decide_eq_true rfl]
     nofun;refine⟨n,rfl,lQ hn,?_⟩;nofun;exact⟨ax (by simp),λq hq=>k q (.num n) _ ⟨rfl,hn⟩ (S4.new hq) af⟩
    ·rw[decide_eq_false λu=>absurd (Oh.inj u) d8.2.2.1]
     nofun;refine⟨p,60,rfl,S4.tape,by decide,by decide,λc H5 c0 c1 S5=>?_⟩;nofun;refine⟨ax (by simp),λq hq=>?_⟩;nofun;have S6:=S4.trans S5;refine⟨p,5,rfl,(S6.new hq).tape,by decide,by decide,λr2 H7 d0 d1 S7=>?_⟩;obtain⟨v,e,hv⟩:=dY (xs:=[Og 1,Og 2,Og 3,Og (1+c),Og 60]) d0 d1;refine bz (Oe (S7.keep q _ af (S6.tape.ne hq))) e ?_;obtain⟨bb,rfl,hb1,hb2⟩:∃bb:Nat,v=Og (bb:Nat)/\1<=bb/\bb<=60:=by
      simp only[EA,EZ,or_false]at hv;rcases hv with rfl|rfl|rfl|rfl|rfl
      ·exact⟨1,rfl,by decide,by decide⟩
      ·exact⟨2,rfl,by decide,by decide⟩
      ·exact⟨3,rfl,by decide,by decide⟩
      ·exact⟨(1+c).toNat,by rw[G1 ⋯],by lia,by lia⟩
      ·exact⟨60,rfl,by decide,by decide⟩
     have S8:=(S6.new hq).trans S7;nofun;exact⟨n,bb,rfl,hb1,hb2,hn,λq n' b' hP hq=>k q (.par n' b') _ ⟨rfl,hP⟩ (S8.new hq) af⟩
def KysT(H:Hp)(qs:List Addr)(ks:List Ky):Prop:=qs.length=ks.length/\∀(i:Nat) q k,qs[i]? = some q->ks[i]? = some k->H q=some (.tup [.str k.word,k.worth])
theorem KysT.tup{H H1:Hp}{qs:List Addr}{ks:List Ky}(h:KysT H qs ks)(s:∀b xs,H b=some (.tup xs)->H1 b=some (.tup xs)):KysT H1 qs ks:=⟨h.1,λi q k a b=>s _ _ (h.2 i q k a b)⟩
theorem KysT.same{H:Hp}{ks:List Ky}(h:KysT H qs ks)(s:Same H H1):KysT H1 qs ks:=h.tup λ_ _ e=>s _ _ e
theorem gG{H:Hp}(S:Stp p H H1)(T:Tape H p):∀b xs,H b=some (.tup xs)->H1 b=some (.tup xs):=λb xs e=>S.keep b _ e (λz=>by obtain⟨x,y,w,u,_⟩:=T;rw[z,u]at e;cases e)
theorem KysT.snoc{H:Hp}{ks:List Ky}{k:Ky}(h:KysT H qs ks)(e:H q=some (.tup [.str k.word,k.worth])):KysT H (qs++[q]) (ks++[k]):=by
 refine⟨by simp[h.1],λi q' k' a b=>?_⟩;by_cases hk:i<qs.length
 ·rw[Ep hk]at a
  rw[Ep (by rw[<-h.1];exact hk)]at b;exact h.2 i q' k' a b
 ·have e:i=qs.length:=by
   have:=(Ei.mp a).1;simp at this;lia
  subst e;rw[Ey (Ed _),Gy]at a;rw[Ey (by rw[h.1];exact Ed _),show qs.length - ks.length=0 by have:=h.1;lia]at b;cases a;cases b;assumption
def xN:Sp:=λvs H Q _=>∃(p:Addr) (kd:Str) (n:Nat),vs=[.ref p,.str kd,.int n]/\Tape H p/\kd∈cS/\n<=12/\∀(l:Addr) (qs:List Addr) (ks:List Ky) H',ks.length<=n->(∀k∈ks,k.ok kd)->KysT H' qs ks->Stp p H H'->H l=none->H' l=some (.lst (qs.map Oi))->Q (.ref l) H'
theorem xO (T:Tx K mg t):FnOk P t.wd K mg base CX0 3 (t.f 87) (t.d 87) ["_law_tape_here","_law_kind","_law_many_here"] xN:=by
 refine okT (N:=["_law_tape_here","_law_kind","_law_many_here","_law_found","_law_k","_law_key_here"]) (T.fn 87 rfl) (λH Q hr nd h=>?_)
 ·obtain⟨p,kd,n,rfl,hT,hkd,hn,k⟩:=h
  refine⟨_,(ae (aD (i:=3) (aO aa))
   (ae (bX EM rfl (eK rfl T.cf (ah (qv 2) aa)) (ay (i:=4)) (ae (aD (i:=5) (aA (Ap T) hr (T.fn 85 rfl) (ah (qv 0) (ah (qv 1) aa))))
   (ae (a8 (Ol (eJ (av (pF (K:=K) hr.units0) (qv 3) (aO aa) (aw _)) (dZ (av fz (aA (bx T) hr (T.fn 82 rfl) (ah (qv 0) (ah ag aa))) ag (aw _))))) (ai (aD (i:=5) (aJ (a9 (K:=K)) (qv 3) (aA (bx T) hr (T.fn 82 rfl) (ah (qv 0) (ah (ak (aV (K:=K)) (by rfl) T.bg aK (ah (qv 3) aa)) aa)))))) aG)
   (ai (a8 (av pe (ak (ib (K:=K) rfl) (by rfl) T.jt iz (ah (aS (N:=["_law_one"]) (tgs:=["_law_one"]) (frs:=[]) (ix:=[]) ⟨rfl,by decide +kernel,rfl,by decide +kernel,rfl,rfl,Ek,Ek,rfl⟩ rfl (aI (K:=K) (qv 3)) (λ_ _ _ _=>(ay (i:=0))) (λ_ _ _ _=>(az cW (ak b5 (by rfl) T.bg aK (ah (aJ (fE (K:=K)) (qv 0) ag) aa)) ag))) aa)) ag (aw _)) (ai (bC (bf (K:=K) (qv 3) (ah (qv 5) aa)))) aG)))))
   (ai (au (qv 3))))),?_⟩
  dsimp only[st0];nofun;refine⟨ax (by simp),λl hl=>?_⟩;have S1:=(Stp.refl hT).new (o:=.lst []) hl;have tl1:(upd H l (.lst [])) l=some (.lst (([]:List Addr).map Oi)):=af;have hlp:l≠p:=hT.ne hl;generalize upd H l (.lst [])=H1 at S1 tl1;nofun;refine⟨_,rfl,by lia,by lia,fW (n:=n) (λi σ H3=>Stp p H H3/\(∃(qs:List Addr) (ks:List Ky),H3 l=some (.lst (qs.map Oi))/\ks.length<=i/\(∀k∈ks,k.ok kd)/\KysT H3 qs ks)/\∃v w,σ=[some (Oi p),some (Oh kd),some (Og n),some (Oi l),v,w]) ⟨S1,⟨[],[],tl1,Ed _,(λk h=>nomatch h),⟨rfl,λi q k h=>by simp at h⟩⟩,none,none,rfl⟩ ?_ ?_⟩
  ·rintro i σ H3 hi ⟨S3,⟨qs,ks,tl3,hkl,hok,hK⟩,v0,w0,rfl⟩
   nofun;refine⟨p,kd,rfl,S3.tape,hkd,λx1 k1 H7 ok1 S4 tx=>?_⟩;have S7:=S3.trans S4;have tl7:=S4.keep _ _ tl3 hlp;have K7:=hK.tup (gG S4 S3.tape);clear S4 tl3 hK S3;nofun;apply wt (α:=Addr) (S:=λx H7=>∃k1:Ky,Stp p H H7/\H7 l=some (.lst (qs.map Oi))/\KysT H7 qs ks/\k1.ok kd/\H7 x=some (.tup [.str k1.word,k1.worth]));case hA=>
    intro key;refine⟨ax (by simp),λd hd=>?_⟩;have S8:=(Stp.refl S7.tape).new (o:=.lst []) hd;have sm8:=(Oj H7).new (o:=.lst []) hd;have td:(upd H7 d (.lst [])) d=some (.lst []):=af;generalize upd H7 d (.lst [])=H8 at S8 sm8 td;have tl8:=sm8 _ _ tl7;have K8:=K7.same sm8;have tx8:=sm8 _ _ tx;have S78:=S7.trans S8;refine⟨l,d,qs.map Oi,rfl,rfl,Oe tl8,Oe td,?_⟩;by_cases hx0:qs.map Oi=[]
    rotate_left 1
    ·rw[decide_eq_false hx0]
     have hxp:0<(qs.map Oi).length:=Fn.mpr hx0;nofun;refine⟨p,3,rfl,S78.tape,by decide,by decide,λr2 H9 a0 a1 S9=>?_⟩;have tl9:=S9.keep _ _ tl8 hlp;have K9:=K8.tup (gG S9 S78.tape);have tx9:=gG S9 S78.tape _ _ tx8;nofun;by_cases hr2:r2=0
     ·rw[decide_eq_true (congrArg Og hr2)]
      nofun;refine aE (Oe tl9) ?_;nofun;refine⟨p,_,rfl,S9.tape,by lia,by rw[Ea,K9.1];lia,λr3 HA c0 c1 SA=>?_⟩;have hj:r3.toNat<qs.length:=by rw[Ea]at c1;lia
      have tlA:=SA.keep _ _ tl9 hlp;have KA:=K9.tup (gG SA S9.tape);have eat:atI (qs.map Oi) r3=some (Oi qs[r3.toNat]):=by
       have e:r3=(r3.toNat:Int):=by lia
       have:=aT (xs:=qs.map Oi) (j:=r3.toNat) (v:=Oi qs[r3.toNat]) (by simp[hj]);rw[<-e]at this;exact this
      refine bz (Oe tlA) eat ?_;have ek:=D9 (l:=ks) (i:=r3.toNat) (by rw[<-KA.1];exact hj);have txA:=KA.2 _ _ _ (D9 hj) ek;have okA':=hok _ (Ez ek);nofun;generalize qs[r3.toNat]=x2 at txA;exact key x2 HA ⟨_,S78.trans (S9.trans SA),tlA,KA,okA',txA⟩
     ·rw[decide_eq_false λu=>hr2 (Og.inj u)]
      nofun;generalize e7:x1=x2;exact key x2 H9 ⟨k1,S78.trans S9,tl9,K9,ok1,e7▸tx9⟩
    ·rw[decide_eq_true hx0]
     nofun;generalize e7:x1=x2;exact key x2 H8 ⟨k1,S78,tl8,K8,ok1,e7▸tx8⟩
   case hB=>
    clear S7 tl7 K7 tx ok1;rintro x H8 ⟨k2,S8,tl8,K8,ok2,tx8⟩;nofun;refine⟨l,rfl,⟨_,Oe tl8⟩,aN (a:=l) (vs:=qs.map Oi) (λj ys σ H'=>H'=H8/\j<=qs.length/\ys=((ks.take j).map λk:Ky=>((k.word.length:Nat):Int)+1).map Og/\∃v,σ=[v]) (by rw[Ea,K8.1];exact aq ⋯) (λj ys σ H' h=>by rw[h.2.2.1,Ea,Ea,EI];have:=h.2.1;rw[K8.1]at this;lia) (λj ys σ H' h=>by rw[h.1];exact Oe tl8) ⟨rfl,Eo _,rfl,none,rfl⟩ ?_ ?_⟩
    ·rintro j ys σ H9 y hy ⟨rfl,_,rfl,v,rfl⟩
     obtain⟨q,rfl,eq,_,hj⟩:=aF hy;have ek:=D9 (l:=ks) (i:=j) (by rw[<-K8.1];exact hj);have tq:=K8.2 _ _ _ eq ek;have hw:=fR (hok _ (Ez ek));generalize ks[j]'(by rw[<-K8.1];exact hj)=ky at ek tq hw;nofun;refine⟨_,rfl,by rw[Os];lia,?_⟩;nofun;exact Om (by rw[Ea];exact hj) ⟨rfl,hj,by rw[Em,ek,Ef,Ef];rfl,_,rfl⟩
    rintro ys σ H9 ⟨rfl,_,rfl,v,rfl⟩ z hz;rw[Ee (by rw[Ea,K8.1];lia)];have S9:=Stp.new S8 (o:=.lst ((ks.map λk:Ky=>((k.word.length:Nat):Int)+1).map Og)) hz;have sz:=(Oj H9).new (o:=.lst ((ks.map λk:Ky=>((k.word.length:Nat):Int)+1).map Og)) hz;have tz:(upd H9 z (.lst ((ks.map λk:Ky=>((k.word.length:Nat):Int)+1).map Og))) z=some (.lst ((ks.map λk:Ky=>((k.word.length:Nat):Int)+1).map Og)):=af;generalize upd H9 z (.lst ((ks.map λk:Ky=>((k.word.length:Nat):Int)+1).map Og))=HA at sz tz S9;have tlA:=sz _ _ tl8;have KA:=K8.same sz;have txA:=sz _ _ tx8;nofun;refine f7 (Oe tz) ?_;nofun;refine aP (λh1=>?_) (λh1=>?_)
    ·nofun
     refine⟨br tlA,?_⟩;nofun;refine aW tlA (by rw[Ea,KA.1];exact aq ⋯) ?_;have tt:∀b ys,HA b=some (.tup ys)->(upd HA l (.lst (qs.map Oi++[Oi x]))) b=some (.tup ys):=λb ys e=>by
      rw[ar (λz=>by rw[z,tlA]at e;cases e)];exact e
     nofun;refine⟨S9.own hl hlp,⟨qs++[x],ks++[k2],by rw[af,Ef];rfl,by simp;lia,λk hk=>?_,(KA.tup tt).snoc (tt _ _ txA)⟩,_,_,rfl⟩;rcases ET.mp hk with h|h
     ·exact hok k h
     ·rw[EG.mp h];exact ok2
    ·nofun
     exact⟨S9,⟨qs,ks,tlA,by lia,hok,KA⟩,_,_,rfl⟩
  ·rintro σ H3 ⟨S3,⟨qs,ks,tl3,hkl,hok,hK⟩,v0,w0,rfl⟩
   nofun;exact k l qs ks H3 hkl hok hK S3 hl tl3
theorem iF{α:Type}{f:Ky->α}{ks:List Ky}{k:Ky}{d:α}(h:ks[i]? = some k):(ks.map f).getD i d=f k:=by rw[Eb,Eh,h];rfl
theorem xP{x y:Int}(h1:HT.bG [y,((j:Nat):Int)] [x,((i:Nat):Int)]=false)(h2:HT.bG [x,((i:Nat):Int)] [y,((j:Nat):Int)]=false->i<j):x<y\/(x=y/\i<j):=by
 by_cases e:x=y
 ·refine .inr ⟨e,?_⟩
  by_cases g:i<j
  ·exact g
  ·refine h2 ?_
   rw[HT.aX,if_pos e,HT.aX];split
   ·rfl
   ·exact decide_eq_false ⋯
 ·rw[HT.aX,if_neg (E2 e)]at h1
  have:=of_decide_eq_false h1;exact .inl ⋯
theorem xQ(h1:HT.lG (y,[((j:Nat):Int)]) (x,[((i:Nat):Int)])=false)(h2:HT.lG (x,[((i:Nat):Int)]) (y,[((j:Nat):Int)])=false->i<j):x.cps.toList<y.cps.toList\/(x=y/\i<j):=by
 unfold HT.lG at h1 h2;dsimp only at h1 h2;by_cases e:x=y
 ·refine .inr ⟨e,?_⟩
  by_cases g:i<j
  ·exact g
  ·refine h2 ?_
   rw[if_pos e,HT.aX];split
   ·rfl
   ·exact decide_eq_false ⋯
 ·rw[if_neg (E2 e)]at h1
  have:=JM.mp (of_decide_eq_false h1);rcases List.le_iff_lt_or_eq.mp this with h|h
  ·exact .inl h
  ·exact absurd (bO h) e
theorem qI:∀b:Nat,b<=60->1<=b->BIG / (b:Int)*(b:Int)=BIG/\0<BIG / (b:Int):=by decide +kernel
theorem nh{n m:Int}(hb:1<=b)(hb2:b<=60)(hc:1<=c)(hc2:c<=60):(n*(BIG / (b:Int))<m*(BIG / (c:Int))↔n*(c:Int)<m*(b:Int)):=by
 obtain⟨e1,g1⟩:=qI b hb2 hb;obtain⟨e2,g2⟩:=qI c hc2 hc;generalize BIG / (b:Int)=x at e1 g1;generalize BIG / (c:Int)=y at e2 g2;have hB:(0:Int)<BIG:=by decide
 have hbc:(0:Int)<(b:Int)*(c:Int):=JL ⋯ ⋯;have a1:n*x*((b:Int)*(c:Int))=n*(c:Int)*BIG:=by rw[<-e1];simp only[IQ,Jm,Ho]
 have a2:m*y*((b:Int)*(c:Int))=m*(b:Int)*BIG:=by rw[<-e2];simp only[IQ,Jm,Ho]
 constructor
 ·intro h
  have:=Gh h hbc;rw[a1,a2]at this;exact Gk this (HZ hB)
 ·intro h
  have:=Gh h hB;rw[<-a1,<-a2]at this;exact Gk this (HZ hbc)
theorem CI {ks:List Ky}{k m:Ky}(hi:ks[i]? = some k) (hj:ks[j]? = some m) (h:k.nn<m.nn\/(k.nn=m.nn/\i<j)):xZ (ju "number" ks) i j:=by
 rw[uX];show ltN _ i j=true/\ltN _ j i=false\/(ltN _ i j=false/\ltN _ j i=false/\i<j)
 unfold ltN;rw[iF hi,iF hj];rcases h with h|⟨h,g⟩
 ·exact .inl ⟨decide_eq_true h,decide_eq_false ⋯⟩
 ·exact .inr ⟨decide_eq_false ⋯,decide_eq_false ⋯,g⟩
theorem CJ {ks:List Ky}{k m:Ky}(hi:ks[i]? = some k) (hj:ks[j]? = some m) (h:k.pp.1*(m.pp.2:Int)<m.pp.1*(k.pp.2:Int)\/(k.pp.1*(m.pp.2:Int)=m.pp.1*(k.pp.2:Int)/\i<j)):xZ (ju "part" ks) i j:=by
 rw[uY];show ltP _ i j=true/\ltP _ j i=false\/(ltP _ i j=false/\ltP _ j i=false/\i<j)
 unfold ltP;rw[iF hi,iF hj];rcases h with h|⟨h,g⟩
 ·exact .inl ⟨decide_eq_true h,decide_eq_false ⋯⟩
 ·exact .inr ⟨decide_eq_false ⋯,decide_eq_false ⋯,g⟩
theorem CK {ks:List Ky}{k m:Ky}(hi:ks[i]? = some k) (hj:ks[j]? = some m) (h:k.tt.cps.toList<m.tt.cps.toList\/(k.tt=m.tt/\i<j)):xZ (ju "text" ks) i j:=by
 rw[uZ];show ltT _ i j=true/\ltT _ j i=false\/(ltT _ i j=false/\ltT _ j i=false/\i<j)
 unfold ltT;rw[iF hi,iF hj];rcases h with h|⟨h,g⟩
 ·exact .inl ⟨decide_eq_true h,decide_eq_false λq=>Hf _ (Ms h q)⟩
 ·rw[h]
  exact .inr ⟨decide_eq_false (Hf _),decide_eq_false (Hf _),g⟩
def WpT(H:Hp)(ts:List Addr)(ks:List Ky):Prop:=ts.length=ks.length/\∀(j:Nat) t k,ts[j]? = some t->ks[j]? = some k->H t=some (.tup [k.worth,.int (j:Nat)])
theorem qJ{K:Ec}{H:Hp}{ts:List Addr}{ks:List Ky}(tl:H l=some (.lst (ts.map Oi)))(hts:ts.length=ks.length)(hW:∀(j:Nat) t k,ts[j]? = some t->ks[j]? = some k->H t=some (.tup [k.worth,.int (j:Nat)]))(hok:∀k∈ks,k.ok kd)(hn:ks.length<=60)(hkd:kd∈cS)
  (q:∀(d:Addr) (p:List Nat) H',H d=none->Same H H'->H' d=some (.lst (p.map λi=>Oi (ts.getD i 0)))->KyOrd kd ks p->Q (.ref d) H'):mQ K [.ref l] H Q:=by
 have mem:∀{p:List Nat},p.Perm (Ej ts.length)->∀i∈p,∃k,ks[i]? = some k/\k.ok kd:=λhp i hi=>by
  have:=ER.mp (hp.mem_iff.mp hi);have e:=D9 (l:=ks) (i:=i) ⋯;exact⟨_,e,hok _ (Ez e)⟩
 have fin:∀(d:Addr) (p:List Nat),H d=none->p.Perm (Ej ts.length)->p.Pairwise (xZ (ju kd ks))->Q (.ref d) (upd H d (.lst (p.map λi=>Oi (ts.getD i 0)))):=λd p hd hp hr=>q d p _ hd ((Oj H).new hd) af ⟨by rw[<-hts];exact hp,hr⟩
 have rows:∀(f:Ky->Int),(∀k∈ks,k.worth=.int (f k))->(∀(i j:Nat) k m,ks[i]? = some k->ks[j]? = some m->k.ok kd->m.ok kd->(f k<f m\/(f k=f m/\i<j))->xZ (ju kd ks) i j)->mQ K [.ref l] H Q:=λf hf hr=>by
  have ge:∀{i:Nat}{k:Ky},ks[i]? = some k->((Ej ks.length).map λi=>[f (ks.getD i (.num 0)),((i:Nat):Int)]).getD i []=[f k,((i:Nat):Int)]:=λ{i k} e=>by
   have hi:=(Ei.mp e).1;rw[Eb,Eh,FH hi];show[f (ks.getD i (.num 0)),((i:Nat):Int)]=_
   rw[Eb,e];rfl
  refine .inl ⟨l,ts,(Ej ks.length).map λi=>[f (ks.getD i (.num 0)),((i:Nat):Int)],rfl,Oe tl,by simp[hts],by lia,λi a r e1 e2=>?_,.inr λr hr=>?_,λd p hd hp hs=>fin d p hd hp ?_⟩
  ·have hi:i<ks.length:=by rw[<-hts];exact(Ei.mp e1).1
   have ek:=D9 hi;have g:=ge ek;rw[Eb,e2]at g;have g:r=_:=g;rw[g];have:=hW i a _ e1 ek;rw[hf _ (Ez ek)]at this;exact Of this
  ·obtain⟨x,_,rfl⟩:=EC.mp hr
   exact λz=>nomatch z
  ·refine hs.imp_of_mem λ{i j} hi hj h=>?_
   obtain⟨k,e1,o1⟩:=mem hp i hi;obtain⟨m,e2,o2⟩:=mem hp j hj;obtain⟨h1,h2⟩:=h;dsimp only at h1 h2;rw[ge e1,ge e2]at h1 h2;exact hr i j k m e1 e2 o1 o2 (xP h1 h2)
 rcases fT hkd with rfl|rfl|rfl
 ·refine rows Ky.nn (λk hk=>?_) λi j k m e1 e2 o1 o2 h=>CI e1 e2 h
  rw[(Ky.isN (hok k hk)).1];rfl
 ·refine rows (λk=>k.pp.1*(BIG / (k.pp.2:Int))) (λk hk=>?_) λi j k m e1 e2 o1 o2 h=>CJ e1 e2 ?_
  ·rw[(Ky.isP (hok k hk)).1];rfl
  ·have p1:=(Ky.isP o1).2
   have p2:=(Ky.isP o2).2;have a1:=p1.2.1;have a2:=p1.2.2.1;have b1:=p2.2.1;have b2:=p2.2.2.1;have w1:=nh (n:=k.pp.1) (m:=m.pp.1) (b:=k.pp.2) (c:=m.pp.2) ⋯ ⋯ ⋯ ⋯;have w2:=nh (n:=m.pp.1) (m:=k.pp.1) (b:=m.pp.2) (c:=k.pp.2) ⋯ ⋯ ⋯ ⋯;rcases h with h|⟨h,g⟩
   ·exact .inl (w1.mp h)
   ·exact .inr ⟨Int.le_antisymm (NA.mp λz=>by have:=w2.mpr z;lia) (NA.mp λz=>by have:=w1.mpr z;lia),g⟩
 ·have ge:∀{i:Nat}{k:Ky},ks[i]? = some k->((Ej ks.length).map λi=>((ks.getD i (.num 0)).tt,[((i:Nat):Int)])).getD i ("",[])=(k.tt,[((i:Nat):Int)]):=λ{i k} e=>by
   have hi:=(Ei.mp e).1;rw[Eb,Eh,FH hi];show((ks.getD i (.num 0)).tt,[((i:Nat):Int)])=_
   rw[Eb,e];rfl
  refine .inr ⟨l,ts,(Ej ks.length).map λi=>((ks.getD i (.num 0)).tt,[((i:Nat):Int)]),rfl,Oe tl,by simp[hts],by lia,λi a r e1 e2=>?_,λd p hd hp hs=>fin d p hd hp ?_⟩
  ·have hi:i<ks.length:=by rw[<-hts];exact(Ei.mp e1).1
   have ek:=D9 hi;have g:=ge ek;rw[Eb,e2]at g;have g:r=_:=g;rw[g];have:=hW i a _ e1 ek;rw[(Ky.isT (hok _ (Ez ek))).1]at this;exact Of this
  ·refine hs.imp_of_mem λ{i j} hi hj h=>?_
   obtain⟨k,e1,o1⟩:=mem hp i hi;obtain⟨m,e2,o2⟩:=mem hp j hj;obtain⟨h1,h2⟩:=h;dsimp only at h1 h2;rw[ge e1,ge e2]at h1 h2;exact CK e1 e2 (xQ h1 h2)
def Aq:Sp:=λvs H Q _=>∃(a:Addr) (qs:List Addr) (ks:List Ky) (kd:Str),vs=[.ref a]/\H a=some (.lst (qs.map Oi))/\KysT H qs ks/\og kd ks/\kd∈cS/\∀(o:Addr) (os:List Nat) H',H o=none->Same H H'->H' o=some (.lst (NV os))->KyOrd kd ks os->Q (.ref o) H'
theorem tY (T:Tx K mg t):FnOk P t.wd K mg base CX0 1 (t.f 88) (t.d 88) ["_law_keys_here"] Aq:=by
 refine okT (N:=["_law_keys_here"]) (T.fn 88 rfl) (λH Q hr nd h=>?_)
 ·obtain⟨a,qs,ks,kd,rfl,ta,hK,⟨hok,hn⟩,hkd,k⟩:=h
  have hql:=hK.1;refine⟨_,(ai (au (aS (N:=["_law_worth","_law_place"]) (tgs:=["_law_worth","_law_place"]) (frs:=[]) (ix:=[]) ⟨rfl,by decide +kernel,rfl,by decide +kernel,rfl,rfl,Ek,Ek,rfl⟩ rfl (aI (K:=K) (ak (sX (K:=K) hr.units) (by rfl) T.fV qf (ah (aS (N:=["_law_k","_law_keys_here"]) (tgs:=["_law_k"]) (frs:=["_law_keys_here"]) (ix:=[0]) ⟨rfl,by decide +kernel,rfl,by decide +kernel,rfl,rfl,⟨⟨rfl,rfl,_,rfl,rfl⟩,Ek⟩,⟨rfl,Ek⟩,rfl⟩ rfl (eK rfl T.cf (ah (ak (aV (K:=K)) (by rfl) T.bg aK (ah (qv 0) aa)) aa)) (λ_ _ _ _=>(ay (i:=0))) (λ_ _ _ _=>(aU (ah (aJ (fE (K:=K)) (aJ (a9 (K:=K)) (qv 1) (qv 0)) ag) (ah (qv 0) aa))))) aa))) (λ_ _ _ _=>(bo (K:=K) (n:=2) rfl (ao (ay (i:=0)) (ao (ay (i:=1)) aQ)))) (λ_ _ _ _=>(qv 1))))),?_⟩;dsimp only[st0];nofun;refine aE (Oe ta) ?_;rw[Ea,hql];refine⟨ks.length,rfl,by lia,by lia,rQ (n:=ks.length) (λi ys σ H'=>Same H H'/\(∃ts:List Addr,ys=ts.map Oi/\ts.length=i/\WpT H' ts (ks.take i))/\∃v,σ=[v,some (Oi a)]) (aq ⋯) (λi ys σ H' h=>by obtain⟨_,⟨ts,rfl,e,_⟩,_⟩:=h;rw[Ea,e]) ⟨Oj _,⟨[],rfl,rfl,rfl,λj t k h=>by simp at h⟩,none,rfl⟩ ?_ ?_⟩
  ·rintro i ys σ H1 hi ⟨s1,⟨ts,rfl,hts,hW⟩,v,rfl⟩
   nofun;have ek:=D9 hi;have eq:=D9 (l:=qs) (i:=i) ⋯;have tq:=s1 _ _ (hK.2 _ _ _ eq ek);have ez:(0:Int)+(i:Int)=((i:Nat):Int):=Int.zero_add _;rw[ez];refine bz (Oe (s1 _ _ ta)) (v:=Oi (qs[i]'⋯)) (aT (by rw[Eh,eq];rfl)) ?_;nofun;refine⟨ax (by simp),λx hx=>?_⟩;have sx:=(Oj H1).new (o:=.tup [(ks[i]).worth,Og (i:Nat)]) hx;refine Om hi ⟨s1.trans sx,⟨ts++[x],by rw[Ef];rfl,by simp[hts],?_⟩,_,rfl⟩;rw[Em,ek];refine⟨by rw[En,En,hW.1];rfl,λj u k' e1 e2=>?_⟩;by_cases hj:j<ts.length
   ·rw[Ep hj]at e1
    rw[Ep (by rw[<-hW.1];exact hj)]at e2;exact sx _ _ (hW.2 j u k' e1 e2)
   ·have e:j=ts.length:=by
     have:=(Ei.mp e1).1;simp at this;lia
    subst e;rw[Ey (Ed _),Gy]at e1;rw[Ey (by rw[hW.1];exact Ed _),show ts.length - (ks.take i).length=0 by rw[hW.1];lia]at e2;cases e1;cases e2;rw[hts];exact af
  rintro ys σ H1 ⟨s1,⟨ts,rfl,hts,hW⟩,v,rfl⟩ l hl;rw[Ee (Ed _)]at hW;obtain⟨H2,e9,sl,tl⟩:=nwR hl (.lst (ts.map Oi));rw[e9];have s2:=s1.trans sl;have W2:∀(j:Nat) t k,ts[j]? = some t->ks[j]? = some k->H2 t=some (.tup [k.worth,.int (j:Nat)]):=λj u k' a b=>sl _ _ (hW.2 j u k' a b)
  nofun;refine qJ tl hts W2 hok hn hkd λd p H3 hd s3 td hO=>?_
  have hpl:p.length=ks.length:=by rw[hO.1.length_eq,E9]
  refine⟨d,rfl,⟨_,Oe td⟩,aN (a:=d) (vs:=p.map λi=>Oi (ts.getD i 0)) (λi ys σ H'=>H'=H3/\i<=p.length/\ys=NV (p.take i)/\∃v w,σ=[v,w]) (by rw[Ea,hpl];exact aq ⋯) (λi ys σ H' h=>by rw[h.2.2.1,aC,EI];have:=h.2.1;lia) (λi ys σ H' h=>by rw[h.1];exact Oe td) ⟨rfl,Eo _,rfl,none,none,rfl⟩ ?_ ?_⟩
  ·rintro i ys σ H4 x hx ⟨rfl,_,rfl,v,w,rfl⟩
   obtain⟨j,rfl,ej,hj,hi⟩:=aF hx;have hjl:=ER.mp (hO.1.mem_iff.mp hj);have et:=D9 (l:=ts) (i:=j) ⋯;have ek:=D9 hjl;have tt:=s3 _ _ (W2 j _ _ et ek);rw[<-et]at et;refine aY (by rw[Eb,D9 (show j<ts.length by lia)];exact tt) ?_;dsimp only[E4];nofun;exact Om (by rw[Ea];exact hi) ⟨rfl,hi,by rw[Em,ej];unfold NV;rw[Ef];rfl,_,_,rfl⟩
  ·rintro ys σ H4 ⟨rfl,_,rfl,v,w,rfl⟩ o ho
   rw[Ea,Ee (Ed _)];exact k o p _ (s2.free (s3.free ho)) ((s2.trans s3).new ho) af hO
noncomputable def lwS (ws:List Str):Str:=if ws=[]then "-" else GF " " ws
theorem CL{ws:List Str}(h:∀w∈ws,w.length≠0):wrS ws=lwS ws:=by
 unfold wrS lwS;cases ws with
 | nil=>rw[if_pos rfl];exact if_pos rfl
 | cons w r=>
  have hw:=h w (EL ..);rw[if_neg (λz=>GU _ _ z)];refine if_neg λz=>hw ?_
  have z:(Gp " " (w::r)).length=0:=z;rw[FX]at z;cases r with
  | nil=>exact z
  | cons y r=>
   have e:(GH " " (w::y::r)).cps.toList.length=0:=z;rw[oa,dM,En]at e;show w.cps.size=0
   rw[<-E7];lia
def tZ:Sp:=λvs H Q _=>∃(a:Addr) (ws:List Str),vs=[.ref a]/\H a=some (.lst (ws.map Oh))/\(∀w∈ws,w.length<=60)/\ws.length<=60/\∀H',Same H H'->Q (.str (lwS ws)) H'
theorem t4 (T:Tx K mg t):FnOk P t.wd K mg base CX0 1 (t.f 89) (t.d 89) ["_law_things"] tZ:=by
 refine okT (N:=["_law_things"]) (T.fn 89 rfl) (λH Q hr nd h=>?_)
 ·obtain⟨a,ws,rfl,ta,hw,hn,k⟩:=h
  refine⟨_,(ai (au (mh (av (pF (K:=K) hr.units0) (qv 0) (aO aa) (aw _)) (jd (K:=K) aB (ah (aS (N:=["_law_one"]) (tgs:=["_law_one"]) (frs:=[]) (ix:=[]) ⟨rfl,by decide +kernel,rfl,by decide +kernel,rfl,rfl,Ek,Ek,rfl⟩ rfl (aI (K:=K) (qv 0)) (λ_ _ _ _=>(ay (i:=0))) (λ_ _ _ _=>(aM (lF hr.gd hr.units) (by rfl) T.fK eV (ah (qv 0) aa)))) aa)) aB))),?_⟩;dsimp only[st0];nofun;refine⟨ax (by simp),λd hd=>?_⟩;obtain⟨H1,e9,s1,td⟩:=nwR hd (.lst []);rw[e9];have ta1:=s1 _ _ ta;refine⟨a,d,ws.map Oh,rfl,rfl,Oe ta1,Oe td,?_⟩;have hk:∀H',Same H1 H'->Q (.str (lwS ws)) H':=λH' s=>k H' (s1.trans s)
  by_cases hx:ws=[]
  ·rw[decide_eq_true (show ws.map Oh=[]by rw[hx];rfl)]
   unfold lwS at hk;rw[if_pos hx]at hk;nofun;exact hk H1 (Oj _)
  ·rw[decide_eq_false (show ¬ws.map Oh=[]from λz=>hx (GZ.mp z))]
   nofun;refine⟨rfl,?_⟩;nofun;refine⟨a,rfl,⟨_,Oe ta1⟩,aN (a:=a) (vs:=ws.map Oh) (λi ys σ H'=>H1=H'/\i<=ws.length/\ys=(ws.take i).map Oh/\∃v,σ=[v]) (aq (by rw[Ea];lia)) (λi ys σ H' h=>by rw[h.2.2.1];simp;lia) (λi ys σ H' h=>h.1▸Oe ta1) ⟨rfl,Eo _,rfl,_,rfl⟩ ?_ ?_⟩
   ·rintro i ys σ H2 x hx ⟨rfl,hi,rfl,v,rfl⟩
    obtain⟨w,rfl,ew,_,hi2⟩:=aF hx;nofun;refine⟨_,_,rfl,.str w,?_⟩;nofun;exact Om (by rw[Ea];exact hi2) ⟨rfl,hi2,by rw[Em,ew,Ef];rfl,_,rfl⟩
   ·rintro ys σ H2 ⟨rfl,hi,rfl,v,rfl⟩ r hr
    rw[Ea,Ee (Ed _)];have hk:=hk _ ((Oj H1).new (o:=.lst (ws.map Oh)) hr);unfold lwS at hk;rw[if_neg hx]at hk;nofun;obtain⟨f1,f2⟩:=m9 hw hn;refine⟨_,r,ws,rfl,rfl,Oe af,f1,?_⟩;nofun;exact hk
theorem t5{k:Ky}(h:k.ok kd):k.word.length≠0:=by
 have hi:∀n:Int,(toString n:Str).length≠0:=λn z=>by
  have e:(toString n:Str).cps.toList.length=0:=z;rw[c4]at e;split at e
  ·cases e
  ·exact mV _ (FA.mp e)
 cases k with
 | num n=>exact hi n
 | par n b=>
  show(dA n b).length≠0
  unfold dA;split
  ·exact hi n
  ·rw[Fp,Fp]
   have:=hi n;lia
 | txt w=>show(tN w).length≠0;rw[jj];lia
def qK:Sp:=λvs H Q _=>∃(a:Addr) (qs:List Addr) (ks:List Ky) (kd:Str),vs=[.ref a]/\H a=some (.lst (qs.map Oi))/\KysT H qs ks/\og kd ks/\kd∈cS/\∀(os:List Nat) H',Same H H'->KyOrd kd ks os->Q (.str (wrS (os.map (cO ks)))) H'
theorem qL (T:Tx K mg t):FnOk P t.wd K mg base CX0 2 (t.f 90) (t.d 90) ["_law_keys_here"] qK:=by
 refine okT (N:=["_law_keys_here"]) (T.fn 90 rfl) (λH Q hr nd h=>?_)
 ·obtain⟨a,qs,ks,kd,rfl,ta,hK,hok,hkd,k⟩:=h
  have hql:=hK.1;refine⟨_,(ai (au (aA (t4 T) hr (T.fn 89 rfl) (ah (aS (N:=["_law_k","_law_keys_here"]) (tgs:=["_law_k"]) (frs:=["_law_keys_here"]) (ix:=[0]) ⟨rfl,by decide +kernel,rfl,by decide +kernel,rfl,rfl,⟨⟨rfl,rfl,_,rfl,rfl⟩,Ek⟩,⟨rfl,Ek⟩,rfl⟩ rfl (aI (K:=K) (aA (tY T) hr (T.fn 88 rfl) (ah (qv 0) aa))) (λ_ _ _ _=>(ay (i:=0))) (λ_ _ _ _=>(aJ (fE (K:=K)) (aJ (a9 (K:=K)) (qv 1) (qv 0)) ag))) aa)))),?_⟩;dsimp only[st0];nofun;refine⟨a,qs,ks,kd,rfl,ta,hK,hok,hkd,λo os H1 ho s1 to hO=>?_⟩;have hol:os.length=ks.length:=by rw[hO.1.length_eq,E9]
  have hn:=hok.2;refine⟨o,rfl,⟨_,Oe to⟩,aN (a:=o) (vs:=NV os) (λi ys σ H'=>H1=H'/\i<=os.length/\ys=((os.take i).map (cO ks)).map Oh/\∃v,σ=[v,some (Oi a)]) (by rw[aC];exact aq ⋯) (λi ys σ H' h=>by rw[h.2.2.1];simp;lia) (λi ys σ H' h=>h.1▸Oe to) ⟨rfl,Eo _,rfl,_,rfl⟩ ?_ ?_⟩
  ·rintro i ys σ H2 x hx ⟨rfl,hi,rfl,v,rfl⟩
   obtain⟨j,rfl,ej,hj,hi2⟩:=aF hx;have hjl:=ER.mp (hO.1.mem_iff.mp hj);have eq:=D9 (l:=qs) (i:=j) ⋯;have ek:=D9 hjl;have tq:=s1 _ _ (hK.2 _ _ _ eq ek);nofun;refine bz (Oe (s1 _ _ ta)) (v:=Oi (qs[j]'⋯)) (aT (by rw[Eh,eq];rfl)) ?_;nofun;exact Om (by rw[aC];exact hi2) ⟨rfl,hi2,by rw[Em,ej,Ef,Ef];show _=_++[Oh (cO ks j)];unfold cO;rw[Eb,ek];rfl,_,rfl⟩
  ·rintro ys σ H2 ⟨rfl,hi,rfl,v,rfl⟩ r hr
   rw[aC,Ee (Ed _)];obtain⟨H2,e9,s2,tr⟩:=nwR hr (.lst ((os.map (cO ks)).map Oh));rw[e9];nofun;have hw:∀w∈os.map (cO ks),w.length<=60/\w.length≠0:=λw hw=>by
    obtain⟨j,hj,rfl⟩:=EC.mp hw;have hjl:=ER.mp (hO.1.mem_iff.mp hj);unfold cO;rw[Eb,D9 hjl];have:=hok.1 _ (Es hjl);exact⟨fR this,t5 this⟩
   refine⟨r,_,rfl,tr,λw h=>(hw w h).1,by rw[Ea];lia,λH3 s3=>?_⟩;rw[<-CL λw h=>(hw w h).2];exact k os H3 (s1.trans (s2.trans s3)) hO
theorem CM{ws:List Str}(h:∀w∈ws,∀c∈w.cps.toList,sgn c):Gx (wrS ws)=true:=by
 unfold wrS;split
 ·decide +kernel
 ·unfold Gx
  rw[<-Array.all_toList,Gu];intro c hc;have hc:c∈(Gp " " ws).cps.toList:=hc;rw[FX,oa]at hc;rcases fS hc with rfl|⟨w,a,b⟩
  ·decide
  ·have:=h w a c b
   unfold sgn at this;exact decide_eq_true ⋯
theorem Dd.ne {d:Dd}(h:d.ok kd):¬d.text = "":=λz=>by
 have e:=Dd.split h;rw[z]at e;have e0:FV ("" : Str) " " = ([""]:List Str):=by decide +kernel
 rw[e0]at e;cases d with
 | row ks=>exact absurd (F7 e).1 (by decide +kernel)
 | pour ks=>exact absurd (F7 e).1 (by decide +kernel)
 | ask a=>
  have:=(F7 e).1;rw[show a = "" from this.symm]at h;exact absurd h (by show ¬("" : Str)∈askL;decide +kernel)
 | srt a=>exact absurd (F7 e).1 (by decide +kernel)
theorem xR {rows:List Str}{ds:List Dd}(hall:(rows.filter λr:Str=>decide (¬r = ""))=kindT kd b::ds.map Dd.text) (hk:kd∈cS) (h2:2<=b) (h64:b<=64) (hok:∀d∈ds,d.ok kd) (hf:rows.length<=200) (hs:(ds.map Dd.many).sum<=200):TextOk (GF "\n" rows) rows kd b ds/\(rows.map (·.length)).sum+rows.length*("\n" : Str).length<=16777216:=by
 obtain⟨_,_,f3,f4,_⟩:=fv hk h64 h2;have hr:∀r∈rows,r.length<=4000/\10∉r.cps.toList:=λr hr=>by
  by_cases e:r = ""
  ·rw[e];decide +kernel
  ·have:r∈rows.filter λr:Str=>decide (¬r = ""):=G3.mpr ⟨hr,decide_eq_true e⟩
   rw[hall]at this;rcases EA.mp this with rfl|this
   ·exact⟨by lia,f4⟩
   ·obtain⟨d,hd,rfl⟩:=EC.mp this
    exact⟨Dd.tlen (hok d hd),Dd.nl (hok d hd)⟩
 have e1:("\n" : Str).length=1:=by decide +kernel
 have e2:=m5 λr h=>(hr r h).1
 refine⟨⟨?_,?_,hf,λr h=>(hr r h).1,hall,hk,h2,h64,hok,hs⟩,by rw[e1];lia⟩
 ·show FV (Gp "\n" rows) "\n" = rows
  rw[FX,CB];refine fu (λz=>?_) λr h=>(hr r h).2
  rw[z]at hall;cases hall
 ·show(Gp "\n" rows).length<=_
  rw[FX];have e3:=Hr "\n" rows;rw[e1]at e3;lia
noncomputable def cz (c:Nat):List Str:=Er c ""
noncomputable def t6(gs:List (Str×Nat)):List Str:=(gs.map λg=>(Dd.srt g.1).text::cz g.2).flatten
noncomputable def cw(a b n:Nat)(kd:Str)(ks:List Ky)(gs:List (Str×Nat)):List Str:=cz a++[kindT kd n]++cz b++[(Dd.row ks).text]++t6 gs
theorem qM (c:Nat):((cz c).filter λr:Str=>decide (¬r = ""))=[]:=by unfold cz;rw[List.filter_replicate];rfl
theorem qN:∀{gs:List (Str×Nat)},(∀g∈gs,g.1∈wayL)->((t6 gs).filter λr:Str=>decide (¬r = ""))=(gs.map λg=>Dd.srt g.1).map Dd.text
 | [],_=>rfl
 | g::gs,h=>by
  have e:t6 (g::gs)=(Dd.srt g.1).text::cz g.2++t6 gs:=rfl;have hn:¬(Dd.srt g.1).text = "":=Dd.ne (kd:="text") (d:=.srt g.1) (h g (EL ..));rw[e,FW,Jp,if_pos (decide_eq_true hn),qM,qN λx hx=>h x (Eu _ hx)];rfl
theorem jq:∀{gs:List (Str×Nat)},(∀g∈gs,g.2<2)->(t6 gs).length<=2*gs.length
 | [],_=>Ed _
 | g::gs,h=>by
  have e:t6 (g::gs)=(Dd.srt g.1).text::cz g.2++t6 gs:=rfl;have h1:=h g (EL ..);have h2:=jq λx hx=>h x (Eu _ hx)
  rw[e,En,EB,EB];unfold cz;rw[E3];lia
theorem xS {a:Nat}{ks:List Ky}{gs:List (Str×Nat)}(hk:kd∈cS) (h2:2<=n) (h64:n<=64) (hok:og kd ks) (ha:a<3) (hb:b<2) (hg:∀g∈gs,g.1∈wayL/\g.2<2) (hl:gs.length<=3):TextOk (GF "\n" (cw a b n kd ks gs)) (cw a b n kd ks gs) kd n (.row ks::gs.map λg=>Dd.srt g.1)/\((cw a b n kd ks gs).map (·.length)).sum+(cw a b n kd ks gs).length*("\n" : Str).length<=16777216:=by
 have hs:=jq λg h=>(hg g h).2
 obtain⟨_,_,_,_,f5⟩:=fv hk h64 h2;have hr:¬(Dd.row ks).text = "":=Dd.ne (kd:=kd) (d:=.row ks) hok;refine xR ?_ hk h2 h64 (λd hd=>?_) ?_ ?_
 ·unfold cw
  rw[FW,FW,FW,FW,qM,qM,qN λg h=>(hg g h).1,Jp,if_pos (decide_eq_true f5),Jp,if_pos (decide_eq_true hr)];rfl
 ·rcases EA.mp hd with rfl|hd
  ·exact hok
  ·obtain⟨g,hg',rfl⟩:=EC.mp hd
   exact(hg g hg').1
 ·unfold cw cz
  simp only[En,E3,EB,Fe];lia
 ·have:((gs.map λg=>Dd.srt g.1).map Dd.many).sum=0:=by
   rw[FD]
   induction gs with
   | nil=>rfl
   | cons g gs ih=>
    rw[E1,Fv,ih (λx hx=>hg x (Eu _ hx)) (by simp at hl;lia) (jq λx hx=>(hg x (Eu _ hx)).2)];rfl
  rw[E1,Fv,this];exact Eo _
theorem kJ{kd:Str}{b:Nat}{ks:List Ky}{os:List Nat}(hO:KyOrd kd ks os):∀{gs:List (Str×Nat)}{as:List Str},AnsF kd b ks [] (gs.map λg=>Dd.srt g.1) as->as=Er gs.length (wrS (os.map (cO ks)))
 | [],as,h=>h
 | g::gs,as,h=>by
  obtain⟨s,r,rfl,⟨os',hO',rfl⟩,h⟩:=h;rw[hO'.one hO,kJ hO h];rfl
structure Lk (p:Addr) (H1 Hc:Hp) (l:Addr) (qs:List Addr) (ks:List Ky):Prop where
 st:Stp p H1 Hc
 key:Hc l=some (.lst (qs.map Oi))
 klp:l≠p
 kt:KysT Hc qs ks
section
variable{p l:Addr}{H1 Hc Hd:Hp}{qs:List Addr}{ks:List Ky}
theorem Lk.same(h:Lk p H1 Hc l qs ks)(s:Same Hc Hd):Lk p H1 Hd l qs ks:=⟨h.st.same s,s _ _ h.key,h.klp,h.kt.same s⟩
theorem Lk.stp(h:Lk p H1 Hc l qs ks)(s:Stp p Hc Hd):Lk p H1 Hd l qs ks:=⟨h.st.trans s,s.keep _ _ h.key h.klp,h.klp,h.kt.tup (gG s h.st.tape)⟩
end
theorem kK{H:Hp}{ws:List Str}(h:H a=some (.lst (ws.map Oh)))(hs:∀w∈ws,Gx w=true):DatE 1 H (.ref a) (.list (ws.map Ny)):=by
 refine DatE.lst h (by rw[Ea,Ea]) λi u e x y=>?_
 obtain⟨w,rfl,ew,hw,_⟩:=aF x;rw[Eh,ew]at y;cases y;exact DatE.str (hs w hw)
def Ar:Sp:=λvs H Q _=>∃(a b:Addr) (ws:List Str),vs=[.ref a,.ref b]/\H a=some (.lst (ws.map Oh))/\H b=some (.lst (ws.map Oh))/\(∀w∈ws,Gx w=true)/\ws.length<=60/\∀H',Same H H'->Q (.bl true) H'
theorem dW (T:Tx K mg t):FnOk P t.wd K mg base CX0 1 (t.f 91) (t.d 91) ["_law_found","_law_due"] Ar:=by
 refine okT (N:=["_law_found","_law_due"]) (T.fn 91 rfl) (λH Q hr nd h=>?_)
 ·obtain⟨a,b,ws,rfl,ta,tb,hw,hn,k⟩:=h
  refine⟨_,(ai (au (uA (ak (ic (K:=K)) (by rfl) T.aZ bu (ah (qv 0) (ah (cQ rfl T.dD gB (v:=.ty "list") rfl) aa))) (uA (c6 (Ck hr.units) (qv 0) (qv 1) (aw _)) (mf (ak (uB (K:=K) rfl) (by rfl) T.qQ uS (ah (aS (N:=["_law_one"]) (tgs:=["_law_one"]) (frs:=[]) (ix:=[]) ⟨rfl,by decide +kernel,rfl,by decide +kernel,rfl,rfl,Ek,Ek,rfl⟩ rfl (aI (K:=K) (qv 0)) (λ_ _ _ _=>(ay (i:=0))) (λ_ _ _ _=>(ak (ic (K:=K)) (by rfl) T.aZ bu (ah (qv 0) (ah (cQ rfl T.fK eV (v:=.ty "str") rfl) aa))))) aa))))))),?_⟩;dsimp only[st0];nofun;refine rN ta ?_;nofun;refine pY (n:=1) (kK ta hw) (kK tb hw) (by decide) ?_;nofun;refine⟨a,rfl,⟨_,Oe ta⟩,aN (a:=a) (vs:=ws.map Oh) (λi ys σ H'=>H=H'/\i<=ws.length/\ys=(Er i true).map V.bl/\∃v,σ=[v]) (aq (by rw[Ea];lia)) (λi ys σ H' h=>by rw[h.2.2.1];simp) (λi ys σ H' h=>h.1▸Oe ta) ⟨rfl,Eo _,rfl,_,rfl⟩ ?_ ?_⟩
  ·rintro i ys σ H2 x hx ⟨rfl,hi,rfl,v,rfl⟩
   obtain⟨w,rfl,ew,_,hi2⟩:=aF hx;nofun;refine Om (by rw[Ea];exact hi2) ⟨rfl,hi2,by rw[List.replicate_succ',Ef];rfl,_,rfl⟩
  ·rintro ys σ H2 ⟨rfl,hi,rfl,v,rfl⟩ r hr
   have k:=k _ ((Oj H).new (o:=.lst ((Er (ws.map Oh).length true).map V.bl)) hr);nofun;refine uz (Oe af) ?_;rw[show(Er (ws.map Oh).length true).all id=true by simp];exact k
theorem t7:EU (toString ((n:Nat):Int))=m6 n:=M7 n
theorem t8 (ks:List Ky):GF " " (Dd.row ks).words=(Dd.row ks).text:=by
 show Gp " " _=_
 rw[FX,oa];rfl
theorem t9 (w:Str) : "sort "++w=(Dd.srt w).text:=by
 have e:("sort " : Str) = "sort"++(⟨#[32]⟩:Str):=by decide +kernel
 rw[e];rfl
theorem xT{x y:V}:kO [x,y] none (some 1)=[x]:=by
 unfold kO;simp[HT.sIx]
theorem lW (k:Nat):(Er k [Oh ""]).flatten=(cz k).map Oh:=by
 unfold cz;rw[FS,GD]
def ua(K:Ec):Sp:=λvs H Q _=>∃(a:Addr) (ns:List Int),vs=[.ref a]/\SqL K H a (ns.map Og)/\ns.length<=63/\∀H',Q (.bl true) H'
theorem As (T:Tx K mg t):FnOk P t.wd K mg base CX0 10 t.Aw t.Av ["_law_script"] (ua K):=by
 have nd:=sc_law.nd;refine T.CO.okQ sc_law (λvs H Q E h=>?_) (λcdv A outer s H vs Q E hr h=>?_)
 ·obtain⟨a,ns,rfl,_⟩:=h
  rfl
 ·obtain⟨a,ns,rfl,hS,hlen,k⟩:=h
  refine⟨_,(ae (bX EM rfl (eK rfl T.cf (ah (az cW ag (ak (zf rfl) (by rfl) T.oj qe (ah ag (ah (ak (aV (K:=K)) (by rfl) T.bg aK (ah (qv 0) aa)) aa)))) aa)) (ay (i:=1)) (ae (aD (i:=2) (aA (w5 T) hr (T.fn 81 rfl) (ah (qv 0) (ah (qv 1) aa))))
   (ae (aD (i:=3) (aJ (a9 (K:=K)) (aO (ah aB (ah aB (ah aB aa)))) (aA (bx T) hr (T.fn 82 rfl) (ah (qv 2) (ah ag aa)))))
   (ae (aD (i:=4) (aA (xO T) hr (T.fn 87 rfl) (ah (qv 2) (ah (qv 3) (ah (aA (xH T) hr (T.fn 83 rfl) (ah (qv 2) aa)) aa)))))
   (ae (aD (i:=5) (aO (ah (az cm (az cm (az cm aB (qv 3)) aB) (aM gz (by rfl) T.fK eV (ah (aA (w6 T) hr (T.fn 84 rfl) (ah (qv 2) aa)) aa))) (ah (jd (K:=K) aB (ah (az ll (aO (ah aB aa)) (aS (N:=["_law_key_here"]) (tgs:=["_law_key_here"]) (frs:=[]) (ix:=[]) ⟨rfl,by decide +kernel,rfl,by decide +kernel,rfl,rfl,Ek,Ek,rfl⟩ rfl (aI (K:=K) (qv 4)) (λ_ _ _ _=>(ay (i:=0))) (λ_ _ _ _=>(aJ (fE (K:=K)) (qv 0) ag)))) aa)) aa))))
   (ae (aD (i:=5) (az ll (az ll (az ll (az jN (aO (ah aB aa)) (aA (bx T) hr (T.fn 82 rfl) (ah (qv 2) (ah ag aa)))) (bL (gT (K:=K)) (qv 5) fc (bE ag))) (az jN (aO (ah aB aa)) (aA (bx T) hr (T.fn 82 rfl) (ah (qv 2) (ah ag aa))))) (bL (gT (K:=K)) (qv 5) (bE ag) fc)))
   (ae (bX EM rfl (hZ (K:=K) (aU (ah aB (ah aB (ah aB aa))))) (ay (i:=6)) (ai (aD (i:=5) (az ll (az ll (qv 5) (aO (ah (az cm aB (qv 6)) aa))) (az jN (aO (ah aB aa)) (aA (bx T) hr (T.fn 82 rfl) (ah (qv 2) (ah ag aa))))))))
   (ae (aD (i:=7) (jd (K:=K) aB (ah (qv 5) aa)))
   (ae (aD (i:=8) (az jN (aO (ah (aA (qL T) hr (T.fn 90 rfl) (ah (qv 4) aa)) aa)) ag))
   (ai (a8 (Ol (c7 (cL (ck (aA (dW T) hr (T.fn 91 rfl) (ah (aA (u4 T) hr (T.fn 80 rfl) (ah (qv 7) aa)) (ah (qv 8) aa))))) (di (cL (ck (aA (dW T) hr (T.fn 91 rfl) (ah (aA (u4 T) hr (T.fn 80 rfl) (ah (qv 7) aa)) (ah (qv 8) aa)))))))) (ai (au iS)) aG)))))))))))
   (ai (au iS))),?_⟩
  rw[show L2.start ["_law_script","_law_k","_law_tape_here","_law_kind","_law_keys_here","_law_rows","_law_way","_law_text","_law_due"] [Oi a]=[some (Oi a),none,none,none,none,none,none,none,none]from rfl];nofun;refine aE hS ?_;nofun;have hml:(Lj Og ns).length=ns.length:=Ea ..;refine⟨_,rfl,by(repeat' split)<;>lia,by(repeat' split)<;>lia,fW (λi σ H'=>Same H H'/\∃v1 v2 v3 v4 v5 v6 v7 v8,σ=[some (Oi a),v1,v2,v3,v4,v5,v6,v7,v8]) ⟨Oj _,_,_,_,_,_,_,_,_,rfl⟩ ?_ ?_⟩
  ·rintro i σ H' hi ⟨sm,v1,v2,v3,v4,v5,v6,v7,v8,rfl⟩
   nofun;refine⟨a,ns,_,rfl,sm.seq hS,by lia,λp H1 hp0 same T1=>?_⟩;nofun;refine⟨ax (by simp),λq1 hq1=>?_⟩;have S2:=(Stp.refl T1).new (o:=.lst [Oh "number",Oh "part",Oh "text"]) hq1;nofun;refine⟨p,3,rfl,S2.tape,by decide,by decide,λr1 H3 r1a r1b S3=>?_⟩;obtain⟨v,ev,hv⟩:=dY (xs:=[Oh "number",Oh "part",Oh "text"]) r1a (by simpa using r1b);refine bz (Oe (S3.keep _ _ af (T1.ne hq1))) ev ?_;obtain⟨kd,rfl,hkd⟩:∃kd:Str,v=Oh kd/\kd∈cS:=by
    simp only[EA,EZ,or_false]at hv;rcases hv with rfl|rfl|rfl
    ·exact⟨_,rfl,by simp[cS]⟩
    ·exact⟨_,rfl,by simp[cS]⟩
    ·exact⟨_,rfl,by simp[cS]⟩
   have S4:=S2.trans S3;clear S2 S3 ev hv hq1 r1a r1b;nofun;refine⟨p,rfl,S4.tape,λm H5 hm S5=>?_⟩;refine⟨p,kd,m,rfl,S5.tape,hkd,hm,λl qs ks H6 hkl hok hK S6 hl tl=>?_⟩;have L6:Lk p H1 H6 l qs ks:=⟨S4.trans (S5.trans S6),tl,S5.tape.ne hl,hK⟩;clear S4 S5 S6 hl tl hK;nofun;have e5:("kind " : Str).length=5:=by decide +kernel
   have e6:(" " : Str).length=1:=by decide +kernel
   obtain⟨_,_,_,hkl6⟩:=m7 kd hkd;refine⟨_,_,rfl,rfl,by rw[Os];lia,?_⟩;nofun;refine⟨_,_,rfl,rfl,by rw[Os,Fp];lia,?_⟩;nofun;refine⟨p,rfl,L6.st.tape,λr H7 r2 r64 S7=>?_⟩;obtain⟨n,rfl⟩:=FO (show(0:Int)<=r by lia);have hn2:2<=n:=by lia
   have hn64:n<=64:=by lia
   have L7:=L6.stp S7;clear S7 L6 r2 r64;obtain⟨_,_,_,_,hnl⟩:=kE n ⋯ hn2;refine⟨_,rfl,lQ ⋯,?_⟩;rw[t7];refine⟨_,_,rfl,rfl,by rw[Os,Fp,Fp];lia,?_⟩;nofun;refine⟨rfl,?_⟩;nofun;refine⟨ax (by simp),λwa hwa=>?_⟩;have s8:=(Oj H7).new (o:=.lst [Oh "row"]) hwa;have twa:(upd H7 wa (.lst [Oh "row"])) wa=some (.lst [Oh "row"]):=af;have L8:=L7.same s8;generalize upd H7 wa (.lst [Oh "row"])=H8 at twa L8;clear L7 s8;nofun;have hkl12:ks.length<=12:=by lia
   have hql:=L8.kt.1;refine⟨l,rfl,⟨_,Oe L8.key⟩,aN (a:=l) (vs:=qs.map Oi) (λj ys σ H'=>H8=H'/\j<=qs.length/\ys=((ks.take j).map Ky.word).map Oh/\∃v,σ=[v]) (by rw[Ea];exact aq ⋯) (λj ys σ H' h=>by rw[h.2.2.1];simp;lia) (λj ys σ H' h=>h.1▸Oe L8.key) ⟨rfl,Eo _,rfl,none,rfl⟩ ?_ ?_⟩
   ·rintro j ys σ H9 y hy ⟨rfl,_,rfl,v,rfl⟩
    obtain⟨q,rfl,eq,_,hj⟩:=aF hy;have ek:=D9 (l:=ks) (i:=j) ⋯;have tq:=L8.kt.2 _ _ _ eq ek;generalize ks[j]'⋯=ky at ek tq;nofun;exact Om (by rw[Ea];exact hj) ⟨rfl,hj,by rw[Em,ek,Ef,Ef];rfl,_,rfl⟩
   rintro ys σ H9 ⟨rfl,_,rfl,v,rfl⟩ wb hwb;rw[Ea,Ee ⋯];have s9:=(Oj H8).new (o:=.lst ((ks.map Ky.word).map Oh)) hwb;have twb:(upd H8 wb (.lst ((ks.map Ky.word).map Oh))) wb=some (.lst ((ks.map Ky.word).map Oh)):=af;have L9:=L8.same s9;have twa9:=s9 _ _ twa;generalize upd H8 wb (.lst ((ks.map Ky.word).map Oh))=H9 at twb L9 twa9;clear L8 s9 twa;nofun;refine⟨wa,wb,_,_,rfl,rfl,twa9,twb,ax (by simp;lia),λwc hwc=>?_⟩;have sA:=(Oj H9).new (o:=.lst (((Dd.row ks).words).map Oh)) hwc;have twc:(upd H9 wc (.lst (((Dd.row ks).words).map Oh))) wc=some (.lst (((Dd.row ks).words).map Oh)):=af;change yK _ (upd H9 wc (.lst (((Dd.row ks).words).map Oh))) _;have LA:=L9.same sA;generalize upd H9 wc (.lst (((Dd.row ks).words).map Oh))=HA at twc LA;clear L9 sA twa9 twb;nofun;have hko:og kd ks:=⟨hok,by lia⟩;have hdr:(Dd.row ks).ok kd:=hko;refine⟨_,wc,_,rfl,rfl,Oe twc,?_,?_⟩
   ·have e2:=m5 λw hw=>(Dd.sgn hdr w hw).2
    have e3:=(Dd.few hdr).1;rw[e6];lia
   nofun;rw[t8];refine⟨ax (by simp),λwd hwd=>?_⟩;have sB:=(Oj HA).new (o:=.lst [Oh (kindT kd n),Oh (Dd.row ks).text]) hwd;have twd:(upd HA wd (.lst [Oh (kindT kd n),Oh (Dd.row ks).text])) wd=some (.lst [Oh (kindT kd n),Oh (Dd.row ks).text]):=af;have nwd:wd≠p:=LA.st.tape.ne hwd;change dm 5 _ _ (upd HA wd (.lst [Oh (kindT kd n),Oh (Dd.row ks).text])) _;have LB:=LA.same sB;generalize upd HA wd (.lst [Oh (kindT kd n),Oh (Dd.row ks).text])=HB at twd LB;clear LA sB twc;nofun;refine⟨ax (by simp),λga hga=>?_⟩;have sC:=(Oj HB).new (o:=.lst [Oh ""]) hga;have tga:(upd HB ga (.lst [Oh ""])) ga=some (.lst [Oh ""]):=af;have nga:ga≠p:=LB.st.tape.ne hga;have LC:=LB.same sC;have twdC:=sC _ _ twd;generalize upd HB ga (.lst [Oh ""])=HC at tga LC twdC;clear LB sC twd;nofun;refine⟨p,3,rfl,LC.st.tape,by decide,by decide,λra HD ra0 ra1 SD=>?_⟩;obtain⟨na,rfl⟩:=FO ra0;have hna:na<3:=by lia
   have LD:=LC.stp SD;have twdD:=SD.keep _ _ twdC nwd;have tgaD:=SD.keep _ _ tga nga;clear LC SD twdC tga ra0 ra1;nofun;refine⟨ga,_,_,rfl,rfl,tgaD,by lia,by lia,ax (by simp;lia),λgb hgb=>?_⟩;rw[Fh,lW];have sE:=(Oj HD).new (o:=.lst ((cz na).map Oh)) hgb;have tgb:(upd HD gb (.lst ((cz na).map Oh))) gb=some (.lst ((cz na).map Oh)):=af;have LE:=LD.same sE;have twdE:=sE _ _ twdD;generalize upd HD gb (.lst ((cz na).map Oh))=HE at tgb LE twdE;clear LD sE twdD tgaD;nofun;refine⟨1,rfl,?_⟩;refine gC twdE λwc1 HF sF twc1=>?_
   rw[xT]at twc1;have LF:=LE.same sF;have twdF:=sF _ _ twdE;have tgbF:=sF _ _ tgb;clear LE sF twdE tgb;have lga:((cz na).map Oh).length=na:=by rw[Ea];exact E3
   refine⟨gb,wc1,_,_,rfl,rfl,tgbF,twc1,ax (by rw[lga];simp;lia),λgc hgc=>?_⟩;rw[show(cz na).map Oh++[Oh (kindT kd n)]=(cz na++[kindT kd n]).map Oh by rw[Ef];rfl];have sG:=(Oj HF).new (o:=.lst ((cz na++[kindT kd n]).map Oh)) hgc;have tgc:(upd HF gc (.lst ((cz na++[kindT kd n]).map Oh))) gc=some (.lst ((cz na++[kindT kd n]).map Oh)):=af;have LG:=LF.same sG;have twdG:=sG _ _ twdF;have ngc:gc≠p:=LF.st.tape.ne hgc;generalize upd HF gc (.lst ((cz na++[kindT kd n]).map Oh))=HG at tgc LG twdG;clear LF sG twdF tgbF twc1;nofun;refine⟨ax (by simp),λgd hgd=>?_⟩;have sH:=(Oj HG).new (o:=.lst [Oh ""]) hgd;have tgd:(upd HG gd (.lst [Oh ""])) gd=some (.lst [Oh ""]):=af;have ngd:gd≠p:=LG.st.tape.ne hgd;have LH:=LG.same sH;have twdH:=sH _ _ twdG;have tgcH:=sH _ _ tgc;generalize upd HG gd (.lst [Oh ""])=HH at tgd LH twdH tgcH;clear LG sH twdG tgc;nofun;refine⟨p,2,rfl,LH.st.tape,by decide,by decide,λrb HI rb0 rb1 SI=>?_⟩;obtain⟨nb,rfl⟩:=FO rb0;have hnb:nb<2:=by lia
   have LI:=LH.stp SI;have twdI:=SI.keep _ _ twdH nwd;have tgcI:=SI.keep _ _ tgcH ngc;have tgdI:=SI.keep _ _ tgd ngd;clear LH SI twdH tgcH tgd rb0 rb1;nofun;refine⟨gd,_,_,rfl,rfl,tgdI,by lia,by lia,ax (by simp;lia),λge hge=>?_⟩;rw[Fh,lW];have sJ:=(Oj HI).new (o:=.lst ((cz nb).map Oh)) hge;have tge:(upd HI ge (.lst ((cz nb).map Oh))) ge=some (.lst ((cz nb).map Oh)):=af;have LJ:=LI.same sJ;have twdJ:=sJ _ _ twdI;have tgcJ:=sJ _ _ tgcI;generalize upd HI ge (.lst ((cz nb).map Oh))=HJ at tge LJ twdJ tgcJ;clear LI sJ twdI tgcI tgdI;have lgb:((cz nb).map Oh).length=nb:=by rw[Ea];exact E3
   refine⟨gc,ge,_,_,rfl,rfl,tgcJ,tge,ax (by rw[Ea,En,lgb,show(cz na).length=na from E3];simp;lia),λgf hgf=>?_⟩;rw[<-Ef];have sK:=(Oj HJ).new (o:=.lst ((cz na++[kindT kd n]++cz nb).map Oh)) hgf;have tgf:(upd HJ gf (.lst ((cz na++[kindT kd n]++cz nb).map Oh))) gf=some (.lst ((cz na++[kindT kd n]++cz nb).map Oh)):=af;have LK:=LJ.same sK;have twdK:=sK _ _ twdJ;generalize upd HJ gf (.lst ((cz na++[kindT kd n]++cz nb).map Oh))=HK at tgf LK twdK;clear LJ sK twdJ tgcJ tge;nofun;refine⟨1,rfl,?_⟩;nofun;refine gC twdK λwc2 HL sL twc2=>?_
   rw[CD]at twc2;have LL:=LK.same sL;have tgfL:=sL _ _ tgf;clear LK sL twdK tgf;have lgf:((cz na++[kindT kd n]++cz nb).map Oh).length<=4:=by
    rw[Ea,En,En,show(cz na).length=na from E3,show(cz nb).length=nb from E3];simp;lia
   refine⟨gf,wc2,_,_,rfl,rfl,tgfL,twc2,ax (by simp only[EB,Fe];lia),λgg hgg=>?_⟩;rw[show(cz na++[kindT kd n]++cz nb).map Oh++[Oh (Dd.row ks).text]=(cw na nb n kd ks []).map Oh by unfold cw t6;simp];have sM:=(Oj HL).new (o:=.lst ((cw na nb n kd ks []).map Oh)) hgg;have tgg:(upd HL gg (.lst ((cw na nb n kd ks []).map Oh))) gg=some (.lst ((cw na nb n kd ks []).map Oh)):=af;have LM:=LL.same sM;have ngg:gg≠p:=LL.st.tape.ne hgg;generalize upd HL gg (.lst ((cw na nb n kd ks []).map Oh))=HM at tgg LM;clear LL sM tgfL twc2;nofun;refine⟨ax (by simp),λtp htp=>?_⟩;have sN:=(Oj HM).new (o:=.tup [Oh "last",Oh "first",Oh "runs"]) htp;have ttp:(upd HM tp (.tup [Oh "last",Oh "first",Oh "runs"])) tp=some (.tup (wayL.map Oh)):=af;have ntp:tp≠p:=LM.st.tape.ne htp;have LN:=LM.same sN;have tggN:=sN _ _ tgg;generalize upd HM tp (.tup [Oh "last",Oh "first",Oh "runs"])=HN at ttp LN tggN;clear LM sN tgg;refine⟨tp,rfl,⟨_,Of ttp⟩,oy (a:=tp) (xs:=wayL.map Oh) (λj σ H'=>H' tp=some (.tup (wayL.map Oh))/\Lk p H1 H' l qs ks/\∃(gs:List (Str×Nat)) (r:Addr),gs.map Lq=wayL.take j/\(∀g∈gs,g.2<2)/\r≠p/\H' r=some (.lst ((cw na nb n kd ks gs).map Oh))/\∃v6,σ=[some (Oi a),some (Og (0 + ↑i)),some (Oi p),some (Oh kd),some (Oi l),some (Oi r),v6,v7,v8]) ⟨ttp,LN,[],gg,rfl,(λg hg=>nomatch hg),ngg,tggN,_,rfl⟩ (λj σ H' _ h=>Of h.1) ?_ ?_⟩
   ·rintro j x σ HP hx ⟨ttP,LP,gs,r,hgs,hg2,nr,tr,v6,rfl⟩
    obtain⟨w,rfl,ew,hw,hj⟩:=aF hx;have hj3:j<3:=hj;have hgl:gs.length<=2:=by
     have:=congrArg Gq hgs;rw[Ea,EI]at this;lia
    have hgw:∀g∈gs,g.1∈wayL/\g.2<2:=λg hg=>⟨F4 (hgs▸Kh hg),hg2 g hg⟩
    have hrl:(cw na nb n kd ks gs).length<=12:=by
     have:=jq hg2;unfold cw cz;simp only[En,E3,EB,Fe];lia
    have e5':("sort " : Str).length=5:=by decide +kernel
    nofun;refine⟨_,_,rfl,rfl,by rw[Os,e5'];have:=(mZ w hw).2;lia,?_⟩;rw[t9];nofun;refine⟨ax (by simp),λxa hxa=>?_⟩;have sQ:=(Oj HP).new (o:=.lst [Oh (Dd.srt w).text]) hxa;have txa:(upd HP xa (.lst [Oh (Dd.srt w).text])) xa=some (.lst [Oh (Dd.srt w).text]):=af;have LQ:=LP.same sQ;have ttQ:=sQ _ _ ttP;have trQ:=sQ _ _ tr;generalize upd HP xa (.lst [Oh (Dd.srt w).text])=HQ at txa LQ ttQ trQ;clear LP sQ ttP tr;refine⟨r,xa,_,_,rfl,rfl,trQ,txa,ax (by rw[Ea];simp only[EB,Fe];lia),λxb hxb=>?_⟩;rw[show(cw na nb n kd ks gs).map Oh++[Oh (Dd.srt w).text]=(cw na nb n kd ks gs++[(Dd.srt w).text]).map Oh by rw[Ef];rfl];have sR:=(Oj HQ).new (o:=.lst ((cw na nb n kd ks gs++[(Dd.srt w).text]).map Oh)) hxb;have txb:(upd HQ xb (.lst ((cw na nb n kd ks gs++[(Dd.srt w).text]).map Oh))) xb=some (.lst ((cw na nb n kd ks gs++[(Dd.srt w).text]).map Oh)):=af;have nxb:xb≠p:=LQ.st.tape.ne hxb;have LR:=LQ.same sR;have ttR:=sR _ _ ttQ;generalize upd HQ xb (.lst ((cw na nb n kd ks gs++[(Dd.srt w).text]).map Oh))=HR at txb LR ttR;clear LQ sR ttQ trQ txa;nofun;refine⟨ax (by simp),λxc hxc=>?_⟩;have sS:=(Oj HR).new (o:=.lst [Oh ""]) hxc;have txc:(upd HR xc (.lst [Oh ""])) xc=some (.lst [Oh ""]):=af;have nxc:xc≠p:=LR.st.tape.ne hxc;have LS:=LR.same sS;have ttS:=sS _ _ ttR;have txbS:=sS _ _ txb;generalize upd HR xc (.lst [Oh ""])=HS at txc LS ttS txbS;clear LR sS ttR txb;nofun;refine⟨p,2,rfl,LS.st.tape,by decide,by decide,λrc HT rc0 rc1 ST=>?_⟩;obtain⟨nc,rfl⟩:=FO rc0;have hnc:nc<2:=by lia
    have LT:=LS.stp ST;have ttT:=ST.keep _ _ ttS ntp;have txbT:=ST.keep _ _ txbS nxb;have txcT:=ST.keep _ _ txc nxc;clear LS ST ttS txbS txc rc0 rc1;nofun;refine⟨xc,_,_,rfl,rfl,txcT,by lia,by lia,ax (by simp;lia),λxd hxd=>?_⟩;rw[Fh,lW];have sU:=(Oj HT).new (o:=.lst ((cz nc).map Oh)) hxd;have txd:(upd HT xd (.lst ((cz nc).map Oh))) xd=some (.lst ((cz nc).map Oh)):=af;have LU:=LT.same sU;have ttU:=sU _ _ ttT;have txbU:=sU _ _ txbT;generalize upd HT xd (.lst ((cz nc).map Oh))=HU at txd LU ttU txbU;clear LT sU ttT txbT txcT;have lgc:((cz nc).map Oh).length=nc:=by rw[Ea];exact E3
    refine⟨xb,xd,_,_,rfl,rfl,txbU,txd,ax (by rw[Ea,En,lgc];simp only[EB,Fe];lia),λxe hxe=>?_⟩;rw[show(cw na nb n kd ks gs++[(Dd.srt w).text]).map Oh++(cz nc).map Oh=(cw na nb n kd ks (gs++[(w,nc)])).map Oh by unfold cw t6;simp];have sV:=(Oj HU).new (o:=.lst ((cw na nb n kd ks (gs++[(w,nc)])).map Oh)) hxe;nofun;refine⟨sV _ _ ttU,LU.same sV,gs++[(w,nc)],xe,?_,λg hg=>?_,LU.st.tape.ne hxe,af,_,rfl⟩
    ·rw[Ef,hgs,Em,ew];rfl
    ·rcases ET.mp hg with h|h
     ·exact hg2 g h
     ·rw[EG.mp h];exact hnc
   ·rintro σ HP ⟨ttP,LP,gs,r,hgs,hg2,nr,tr,v6,rfl⟩
    have hgs:gs.map Lq=wayL:=hgs;have hg3:gs.length=3:=by rw[<-Ea (f:=Lq),hgs];rfl
    have hgw:∀g∈gs,g.1∈wayL/\g.2<2:=λg hg=>⟨hgs▸Kh hg,hg2 g hg⟩
    obtain⟨tk,tj⟩:=xS (kd:=kd) (a:=na) (b:=nb) hkd hn2 hn64 hko hna hnb hgw ⋯;nofun;refine⟨rfl,?_⟩;nofun;refine⟨_,r,_,rfl,rfl,Oe tr,tj,?_⟩;nofun;refine⟨l,qs,ks,kd,rfl,LP.key,LP.kt,hko,hkd,λos HQ sQ hO=>?_⟩;have hwo:Gx (wrS (os.map (cO ks)))=true:=CM λw hw=>by
     obtain⟨o,ho,rfl⟩:=EC.mp hw;have hol:=ER.mp (hO.1.mem_iff.mp ho);unfold cO;rw[Eb,D9 hol];exact Ky.sgn (hok _ (Es hol))
    have three_ans:∀as,AnsF kd n [] [] (.row ks::gs.map λg=>Dd.srt g.1) as->as=Er 3 (wrS (os.map (cO ks))):=λas h=>by
     rw[<-hg3];exact kJ hO h
    generalize wrS (os.map (cO ks))=ans at hwo three_ans;have LQ:=LP.same sQ;have trQ:=sQ _ _ tr;nofun;refine⟨ax (by simp),λya hya=>?_⟩;have sR:=(Oj HQ).new (o:=.lst [Oh ans]) hya;have tya:(upd HQ ya (.lst [Oh ans])) ya=some (.lst [Oh ans]):=af;have LR:=LQ.same sR;generalize upd HQ ya (.lst [Oh ans])=HR at tya LR;nofun;refine⟨ya,_,_,rfl,rfl,tya,by lia,by lia,ax (by simp),λyb hyb=>?_⟩;rw[show(Er (Int.toNat 3) [Oh ans]).flatten=(Er 3 ans).map Oh from rfl];have sS:=(Oj HR).new (o:=.lst ((Er 3 ans).map Oh)) hyb;have tyb:(upd HR yb (.lst ((Er 3 ans).map Oh))) yb=some (.lst ((Er 3 ans).map Oh)):=af;have LS:=LR.same sS;generalize upd HR yb (.lst ((Er 3 ans).map Oh))=HS at tyb LS;have hds:∀d∈(Dd.row ks::gs.map λg=>Dd.srt g.1),d.deed\/okA d:=λd hd=>by
     rcases EA.mp hd with rfl|hd
     ·exact .inl trivial
     ·obtain⟨g,_,rfl⟩:=EC.mp hd
      exact .inr trivial
    have hwo3:∀w∈Er 3 ans,Gx w=true:=λw hw=>by rw[Jo hw];exact hwo
    nofun;refine⟨_,_,kd,n,_,rfl,tk,trivial,hds,λxa as HT sT _ tx hA=>?_⟩;obtain rfl:=three_ans as hA;nofun;refine⟨xa,yb,_,rfl,tx,sT _ _ tyb,hwo3,by simp,λHU sU=>?_⟩;nofun;refine⟨_,_,kd,n,_,rfl,tk,trivial,hds,λxb as HV sV _ tx2 hA=>?_⟩;obtain rfl:=three_ans as hA;nofun;refine⟨xb,yb,_,rfl,tx2,sV _ _ (sU _ _ (sT _ _ tyb)),hwo3,by simp,λHW sW=>?_⟩;nofun;have LW:=LS.st.same (sT.trans (sU.trans (Same.trans sV sW)));refine⟨λq o e=>LW.keep q o (same _ _ (sm _ _ e)) λz=>?_,_,_,_,_,_,_,_,_,rfl⟩;have:=sm _ _ e;rw[z,hp0]at this;cases this
  ·rintro σ H' ⟨sm,v1,v2,v3,v4,v5,v6,v7,v8,rfl⟩
   nofun;exact k _
end
theorem D1{α:Type}{P:List α->Prop}(h:∀x0:α,P [x0]):∀us:List α,us.length=1->P us
 | [x0],_=>h x0
theorem D2{α:Type}{P:List α->Prop}(h:∀x0 x1:α,P [x0,x1]):∀us:List α,us.length=2->P us
 | [x0,x1],_=>h x0 x1
theorem Dx{α:Type}{P:List α->Prop}(h:∀x0 x1 x2:α,P [x0,x1,x2]):∀us:List α,us.length=3->P us
 | [x0,x1,x2],_=>h x0 x1 x2
theorem D4{α:Type}{P:List α->Prop}(h:∀x0 x1 x2 x3:α,P [x0,x1,x2,x3]):∀us:List α,us.length=4->P us
 | [x0,x1,x2,x3],_=>h x0 x1 x2 x3
theorem CN:AB tab:=by
 unfold tab
 repeat refine And.intro (by first|exact λ_ _ _ _ _ _=>D1 (λ_=>rfl)|exact λ_ _ _ _ _ _=>D2 (λ_ _=>rfl)|exact λ_ _ _ _ _ _=>Dx (λ_ _ _=>rfl)|exact λ_ _ _ _ _ _=>D4 (λ_ _ _ _=>rfl)) ?_
 exact trivial
theorem Au {l:Jy}{w:World}{K:Ec}{mg:Str->Option Value}{fa f60 f93 aH:Addr}{d60:FuncData}{fs:List Addr}{ds:List FuncData}(X:K.In h) (G:h.Ns mainGlobals mg) (hfa:mg "law" = some (.ref fa))
  (al:Al K tab fs ds)
  (a60:Fj K (.ref aH) "__init__" = some (some (.ref f60))) (i60:MV K (.ref f60)=true) (F60:Fun K "__init__" "Desk.__init__" cE f60 d60)
  (a93:EJ K mainGlobals "law" = some (some (.ref f93)))
  {oc93 kV93 dc93 pm93 cd93 ct93:Value}{od93 an93:Option Addr}{sl93:Array (Option Value)}
  (l93:K.lookup f93=some ⟨oc93,od93,.func (Gf "law" "law" (dX je) (cP je) (bj je) .none kV93 dc93 pm93 an93 cd93 ct93),sl93⟩) (c93:Iq K cd93 "law" = true) (k93:FU K (.ref f93)=true)
  (lZ:EJ K mainGlobals "abs" = some none)
  (qQ:EJ K mainGlobals "all" = some none)
  (ni:EJ K mainGlobals "bool" = some none)
  (cb:EJ K mainGlobals "enumerate" = some none)
  (kN:EJ K mainGlobals "int" = some none)
  (aZ:EJ K mainGlobals "isinstance" = some none)
  (bg:EJ K mainGlobals "len" = some none)
  (dD:EJ K mainGlobals "list" = some none)
  (l6:EJ K mainGlobals "max" = some none)
  (oj:EJ K mainGlobals "min" = some none)
  (qR:EJ K mainGlobals "ord" = some none)
  (cf:EJ K mainGlobals "range" = some none)
  (fV:EJ K mainGlobals "sorted" = some none)
  (fK:EJ K mainGlobals "str" = some none)
  (jt:EJ K mainGlobals "sum" = some none)
  (bT:EJ K mainGlobals "tuple" = some none)
  (ue:EJ K mainGlobals "zip" = some none)
  {bS:Addr}{q0_READERS q1_READERS q2_READERS:Tok}{ep_READERS:Nat}(ag_READERS:EJ K mainGlobals "READERS" = some (some (.ref bS))) (at_READERS:K.lookup bS=some ⟨.type "dict",none,.dict #[⟨EY w.params "number",.str "number" q0_READERS,.ref (fs.getD 50 fa)⟩,⟨EY w.params "part",.str "part" q1_READERS,.ref (fs.getD 51 fa)⟩,⟨EY w.params "text",.str "text" q2_READERS,.ref (fs.getD 52 fa)⟩] ep_READERS,#[]⟩)
  {fD:Addr}{q0_ASKS q1_ASKS q2_ASKS q3_ASKS q4_ASKS q5_ASKS q6_ASKS q7_ASKS q8_ASKS:Tok}{ep_ASKS:Nat}(ag_ASKS:EJ K mainGlobals "ASKS" = some (some (.ref fD))) (at_ASKS:K.lookup fD=some ⟨.type "dict",none,.dict #[⟨EY w.params "order",.str "order" q0_ASKS,.ref (fs.getD 65 fa)⟩,⟨EY w.params "back",.str "back" q1_ASKS,.ref (fs.getD 66 fa)⟩,⟨EY w.params "rings",.str "rings" q2_ASKS,.ref (fs.getD 67 fa)⟩,⟨EY w.params "ahead",.str "ahead" q3_ASKS,.ref (fs.getD 68 fa)⟩,⟨EY w.params "cheapest",.str "cheapest" q4_ASKS,.ref (fs.getD 69 fa)⟩,⟨EY w.params "walk",.str "walk" q5_ASKS,.ref (fs.getD 70 fa)⟩,⟨EY w.params "puts",.str "puts" q6_ASKS,.ref (fs.getD 71 fa)⟩,⟨EY w.params "poured",.str "poured" q7_ASKS,.ref (fs.getD 72 fa)⟩,⟨EY w.params "heaps",.str "heaps" q8_ASKS,.ref (fs.getD 73 fa)⟩] ep_ASKS,#[]⟩)
  {iG:Addr}{q0_DONE q1_DONE q2_DONE:Tok}{ep_DONE:Nat}(ag_DONE:EJ K mainGlobals "DONE" = some (some (.ref iG))) (at_DONE:K.lookup iG=some ⟨.type "dict",none,.dict #[⟨EY w.params "last",.str "last" q0_DONE,.ref (fs.getD 42 fa)⟩,⟨EY w.params "first",.str "first" q1_DONE,.ref (fs.getD 43 fa)⟩,⟨EY w.params "runs",.str "runs" q2_DONE,.ref (fs.getD 44 fa)⟩] ep_DONE,#[]⟩)
  {gJ:Addr}{q0_WAYS q1_WAYS q2_WAYS:Tok}{ep_WAYS:Nat}{od_WAYS:Option Addr}{sl_WAYS:Array (Option Value)}(ag_WAYS:EJ K mainGlobals "WAYS" = some (some (.ref gJ))) (at_WAYS:K.lookup gJ=some ⟨.type "tuple",od_WAYS,.seq #[.str "last" q0_WAYS,.str "first" q1_WAYS,.str "runs" q2_WAYS] ep_WAYS,sl_WAYS⟩)
  (ac_Desk:EJ K mainGlobals "Desk" = some (some (.ref aH)))
  (dN:(bS == sysModules)=false)
  (js:(fD == sysModules)=false)
  (pg_Desk:Ht K aH Ge=true)
  (hd_Desk:Hk K aH=true)
  (po_Desk:IT K aH=true)
  (sa_Desk:Fj K (.ref aH) "__setattr__" = some (some (.builtin "object.__setattr__")))
  (mk_Desk:Jv K aH=true)
  (kc_Desk:FU K (.ref aH)=true)
  (b8:Fj K (.ref aH) "kind" = some none)
  (cJ:Fj K (.ref aH) "base" = some none)
  (b9:Fj K (.ref aH) "laid" = some none)
  (bI:Fj K (.ref aH) "pourings" = some none)
  {eh:Tok}(ag_TEXT_BASE:EJ K mainGlobals "TEXT_BASE" = some (some (.int 27 eh)))
  {gM:Tok}(ag_FIGURES:EJ K mainGlobals "FIGURES" = some (some (.str "0123456789" gM)))
  {gN:Tok}(ag_LETTERS:EJ K mainGlobals "LETTERS" = some (some (.str "abcdefghijklmnopqrstuvwxyz" gN)))
  {cV:Tok}(ag_MOST_LETTERS:EJ K mainGlobals "MOST_LETTERS" = some (some (.int 20 cV)))
  {dh:Tok}(ag_MOST_BOTTOM:EJ K mainGlobals "MOST_BOTTOM" = some (some (.int 60 dh)))
  {cU:Tok}(ag_MOST_FIGURES:EJ K mainGlobals "MOST_FIGURES" = some (some (.int 18 cU)))
  {dC:Tok}(ag_LEAST_BASE:EJ K mainGlobals "LEAST_BASE" = some (some (.int 2 dC)))
  {ee:Tok}(ag_MOST_BASE:EJ K mainGlobals "MOST_BASE" = some (some (.int 64 ee)))
  {ef:Tok}(ag_MOST_KEYS:EJ K mainGlobals "MOST_KEYS" = some (some (.int 200 ef))) :
  ∃fd:FuncData,(∀(s:Shared) (v:Value),BindsTo s fd ⟨[v],[]⟩ [("_law_script",v)])/\∀base:Heap,K.In base->base.Ns mainGlobals mg->FnOk l.prog w K mg base CX0 10 fa fd ["_law_script"] (ua K):=by
 have e:=hfa.symm.trans (Fg X G a93);cases e;have b60:=F60.binds (ps:=["self","kind","base"]) λ_ _ _ _ _ _=>Dx (λ_ _ _=>rfl)
 have F93:=uy (st:=je) l93 c93 k93;have T:Tx K mg ⟨λi=>fs.getD i fa,λi=>ds.getD i (Gf "law" "law" (dX je) (cP je) (bj je) .none kV93 dc93 pm93 an93 cd93 ct93),_,_,_,_,w,_,_,_,_,_,_,_,_,_,_,_,_,_,_⟩:=⟨λi {x s p} e=>Al.ft X G al CN _ _ i e,⟨mk_Desk,a60,i60,kc_Desk⟩,F60,b60,F93,EV X G lZ,EV X G qQ,EV X G ni,EV X G cb,EV X G kN,EV X G aZ,EV X G bg,EV X G dD,EV X G l6,EV X G oj,EV X G qR,EV X G cf,EV X G fV,EV X G fK,EV X G jt,EV X G bT,EV X G ue,Fg X G ag_READERS,⟨[q0_READERS,q1_READERS,q2_READERS],ep_READERS,rfl,at_READERS⟩,Fg X G ag_ASKS,⟨[q0_ASKS,q1_ASKS,q2_ASKS,q3_ASKS,q4_ASKS,q5_ASKS,q6_ASKS,q7_ASKS,q8_ASKS],ep_ASKS,rfl,at_ASKS⟩,Fg X G ag_DONE,⟨[q0_DONE,q1_DONE,q2_DONE],ep_DONE,rfl,at_DONE⟩,Fg X G ag_WAYS,λH=>.inr ⟨_,_,_,at_WAYS,rfl,rfl,(by show 3<=Oo;decide),(.cons ⟨_,rfl⟩ (.cons ⟨_,rfl⟩ (.cons ⟨_,rfl⟩ .nil)))⟩,Fg X G ac_Desk,dN,js,⟨pg_Desk,hd_Desk,po_Desk,sa_Desk⟩,b8,cJ,b9,bI,Fg X G ag_TEXT_BASE,Fg X G ag_FIGURES,Fg X G ag_LETTERS,Fg X G ag_MOST_LETTERS,Fg X G ag_MOST_BOTTOM,Fg X G ag_MOST_FIGURES,Fg X G ag_LEAST_BASE,Fg X G ag_MOST_BASE,Fg X G ag_MOST_KEYS⟩;exact⟨_,λs v=>.of_eq rfl,λbase _ _=>As T⟩
theorem D5{l:Jy}{q:Program}{loose:List Str}{XP:(Str->Option Value)->Heap->Prop}{YP:World->Heap->Prop}{d:DefRec}{K:Params->Ec}(hn:l.most=some 63)(hdf:d.params.defaults=[])
  (hY:∀(w:World) (h:Heap),YP w h->(K w.params).In h)
  (F:∀(w:World) (mg:Str->Option Value) (fa:Addr) (h:Heap),(K w.params).In h->h.Ns mainGlobals mg->mg d.name=some (.ref fa)->
   ∃fd:FuncData,(∀(s:Shared) (u:Value),BindsTo s fd ⟨[u],[]⟩ [("_law_script",u)])/\∀base:Heap,(K w.params).In base->base.Ns mainGlobals mg->FnOk l.prog w (K w.params) mg base CX0 10 fa fd ["_law_script"] (ua (K w.params))) :
  Mn q loose XP YP l.row.toRowW d [] (λf vs=>Ly f vs):=
 L2.vR (n:=63) (k:=10) (x:="_law_script") (CX:=λ_=>CX0) (sp:=λw=>ua (K w.params)) hn (by decide) hdf ⟨rfl,by decide,by decide,rfl⟩ hY F (λ_ _ a ns hl _ hS=>⟨a,ns,rfl,hS,hl,λ_=>rfl⟩) λ_ _ _ _ _ z=>z
end Fs
open PySem PySem.W PyProof.Rows
set_option maxRecDepth 100000 in
set_option maxHeartbeats 0 in
theorem PySem.Challenge.cw_figuresort_k48_keys_read_and_written_holds : PySem.Challenge.rw_figuresort_k48_keys_read_and_written.Holds := by
 w_on;refine holds_law Fs.AW λsaid=>?_
 refine holds_open (q:=Fs.vwF) (loose:=Fs.loF) (Xt:=Fs.xtF) (XP:=XL Fs.vwF []) (YP:=Hook.says Fs.gP) Fs.AZ (Hook.of Fs.gP) (Hook.keeps Fs.gP) (λs e=>xl_of s (J9.mp e).1) XL.keeps (by rfl) (by rfl) (by rfl) (λs e=>recFacts_of (J9.mp e).2) (by rfl) said (by first|exact Fs.Dz|decide +kernel) (by first|exact Fs.x9|exact⟨rfl,rfl,rfl,rfl,rfl,by decide +kernel⟩) ?hw ?hc
 (case hw=>w_witness2)
 delta Fs.gP
 k_fill
 refine Fs.D5 (l:=EF) rfl rfl (λw h Y=>by first|exact PySem.W.kIn_of Y|exact PySem.W.km_in_of Y) ?F;case F=>
  intro w mg fa h KX G hmg;refine' Fs.Au KX G hmg ?al ?a60 ?i60 ?F60 ?a93 ?l93 ?c93 ?k93 ?lZ ?qQ ?ni ?cb ?kN ?aZ ?bg ?dD ?l6 ?oj ?qR ?cf ?fV ?fK ?jt ?bT ?ue ?ag_READERS ?at_READERS ?ag_ASKS ?at_ASKS ?ag_DONE ?at_DONE ?ag_WAYS ?at_WAYS ?ac_Desk ?dN ?js ?pg_Desk ?hd_Desk ?po_Desk ?sa_Desk ?mk_Desk ?kc_Desk ?b8 ?cJ ?b9 ?bI ?ag_TEXT_BASE ?ag_FIGURES ?ag_LETTERS ?ag_MOST_LETTERS ?ag_MOST_BOTTOM ?ag_MOST_FIGURES ?ag_LEAST_BASE ?ag_MOST_BASE ?ag_MOST_KEYS;case' al=>unfold Fs.tab;repeat' (first|exact L2.Al.nil|refine' L2.Al.cons ?_ ?_ ?_)
  iterate 2 all_goals (first|k_is|exact L2.uy (by k_is) (by k_is) (by k_is)|skip)
  all_goals kernel_rfl
