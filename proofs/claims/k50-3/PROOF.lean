import PyProof.Rows.All
import Wide.All
import OpenK.AllK
import Wide.FinOn
import Lean
import PyProof.EqAt
import PyProof.EqKinds
import PyProof.TupleCall
import PySem.Challenge.RW_figuresort_k50_asks_of_a_row
set_option compiler.extract_closed false
local macro_rules
 | `(tactic|lia)=>`(tactic|first | lia (config:={}) | omega)
local macro_rules
 | `(⋯)=>`(by lia)
open List renaming length_map→EE,getElem?_eq_getElem→EF,getD_eq_getElem?_getD→EH,map_append→EK,getElem?_eq_some_iff→EM,getElem?_map→EN,mem_cons→EO,take_of_length_le→ER,mem_of_getElem?→ES,mem_append_right→ET,size_toArray→EW,range→EZ,mem_map→E1,replicate→E2,take_add_one→E3,mem_cons_of_mem→E4,getElem?_append_left→E6,getElem?_append_right→E8,length_append→Fd,lookup_cons→Fg,getElem_mem→Fh,length_cons→Fk,not_mem_nil→Fl,mem_cons_self→Fn,toArray→Fo,mem_append→Fq,mem_singleton→Fu,map_cons→Fw,length_range→Fz,mem_range→FE,length_take→FN,replicate_succ→FO,pairwise_iff_getElem→FQ,length_pos_iff→FR,all_eq_true→F4,set→F7,getElem_of_mem→F9,getElem?_range→Ga,map_eq_nil_iff→Gb,lookup→Gc,map_map→Gd,length_singleton→Gf,append_nil→Gj,getElem?_of_mem→Gm,zip_cons_cons→GC,nodup_cons→GF,mem_iff_getElem→GJ,flatten_replicate_singleton→GP,cons_ne_nil→GQ,getElem?_replicate→GR,all_cons→GT,length_nil→GV,map_replicate→GW,length→GX,flatten_cons→G1,getElem?_set→G4,length_replicate→G6,contains_iff_mem→G8,idxOf_lt_length_of_mem→Ha,mem_append_left→Hb,nodup_iff_pairwise_ne→Hg,map_congr_left→Hk,pairwise_cons→Hn,getElem_range→Ho,lt_irrefl→Hv,append_assoc→HQ,sum_cons→HV,getElem?_eq_none→Ie,map_nil→Ii,length_set→Ij,range_succ→Il,mem_of_mem_take→Ir,filterMap_cons→Iy,drop_zero→IE,pairwise_map→IZ,length_drop→Jj,cons_append→Jp,length_eq_zero_iff→Jr,getElem?_cons_succ→Ju,mem_filter→Jy,of_mem_zip→JA,sum_append→JC,getElem?_set_self→JG,not_lt→JM,cons_lt_cons_iff→JQ,take_append_drop→JS,getElem?_set_ne→JT,any_cons→JZ,length_reverse→J8,flatten_append→Kc,mem_filterMap→Kj,zip_nil_right→Km,map_set→Kr,find?_toArray→Kv,getElem_idxOf→KB,getElem?_drop→KC,zip_nil_left→KQ,reverse_cons→KR,foldl_append→KU,mapM_toArray→KY,nodup_range→Lh,map→Li,mem_toArray→Lk,ext_getElem→Ln,foldl→Lu,nil_append→Lv,find?_cons→LN,drop→Mc,lt_trans→Mi,all_map→MM,take→NL
open PySem.W renaming Frag→EG,nsIn→Fe,findIn→Fm,mg_none_of→Fv,mg_of→FG,kia_one→FS,keepIn→FZ,emptyDict→F0,kia_tup→F1,instObj→Gi,fnOf→Gk,isFn→Gz,plainGet→GM,hasDictIn→G0,kitOne→G5,plainOver→HL,kitx_list→HN,codeHdIn→Ic,makesIn→Ih,plainGet_of→Iz,lookIn→IC,codeIn→ID,kitx_tuple→IF,callWith_K→IG,methodObj→IW,kitx_none→IX,kitx_int→Jg,takerIn→Jz,OpenLaw→JD,cellsFrom_some→JH,kitx_bool→KN,kitx_dict→KO,handedIn→Lb,kitx_str→Lc,kitAny→LV,WalkO→Mh
open Nat renaming le_refl→EI,zero_le→EU,lt_of_lt_of_le→Fb,ne_of_lt→Fc,le_trans→FB,lt_of_le_of_lt→FC,lt_or_ge→FI,lt_irrefl→FM,gcd→Gn,le_of_lt→Gy,le_of_eq→GB,lt_succ_of_lt→GH,ne_of_gt→GL,lt_trans→GN,lt_trichotomy→G3,sub_self→G7,succ_le_succ→He,le_succ→Hh,lcm→Hi,mod_lt→Hu,mul_div_cancel_left→Hx,le_add_right→Ib,toDigits→Iu,mul_le_mul_left→IB,eq_zero_or_pos→IK,le_of_dvd→IS,gcd_dvd_right→I0,lt_succ_self→Jf,pow_succ→Jl,pos_of_mul_pos_left→Jt,gcd_pos_of_pos_left→Jv,log2_lt→JI,le_mul_of_pos_left→JJ,add_comm→Kp,eq_or_lt_of_le→Ks,gcd_zero_right→Kx,mul_add→La,gcd_dvd_left→Lf,succ_ne_self→Lg,mod_eq_of_lt→Lj,log2_le_self→Lo,div_pos_iff→Ly,div_le_self→Lz,div_add_mod→LL,mul_le_mul→LW,dvd_trans→Me,succ_mul→MJ,gcd_comm→ML,mul_succ→MN,zero_add→MO,pow_pos→M5,mod_mul→M6,mul_one→Na
open PySem.Heap renaming get?_push_of_some→EJ,lt_size→EV,get?_push_size→E5,get?_push_ne→GI,size_update→GO,get?_update_other→GY,size_push→Ht,get?_update_ne→Ka,SameBut→Ki
open PySem.Challenge renaming pw_figuresort_k50_asks_of_a_row→EL,rw_figuresort_k50_asks_of_a_row→Ff
open True renaming intro→EX
open Option.some renaming inj→EY,injEq→KS
open Ne renaming symm→E7
open Bool renaming false_ne_true→E9,false_eq_true→FK,and_eq_true→FW,eq_iff_iff→Hm,false_or→HU,not_true→IR,and_eq_true_iff→JY,true_or→Kq,and_false→LS,or_true→MK
open PySem.Value renaming ref→Fi,none→Ft,isStrOf→FL,type→Gh,str→GU,int→G9,bool→Ja,float→K5,bytes→MS
open PySem.Obj renaming mapSeq→Fj
open PySem.PassesOwn renaming never→Fp
open PySem.PyData renaming keyHash→Fx,leavesShort→FV,strOk→Hq,showable→JB,leavesShortAll→JP,showableAll→Kt,hasDictAll→KW,canLayAll0→KZ,depthAll→LA,canLay0→LZ,str→Nl
open PySem.Str renaming ofString→Fy,length_append→FA,append_assoc→FD,join→Gv,empty→GA,cps_append→GK,length→JV,ext'→NZ
open Array renaming length_toList→FF,toList_append→Gs,getD_eq_getD_getElem?→GD,getElem?_toList→Ig,getD→Io,perm_iff_toList_perm→IT,mem_toList_iff→JU,forIn_toList→Ku,toList→Mv
open PySem.Txt renaming removeprefix→FH,join→FX,partition→FY,split→Gg,contains→Hs,mul→Je,slice→JF,startswith→L0
open Option renaming map_eq_some_iff→FJ,isSome_iff_exists→F2,map_some→Jx,getD_none→Ld,none→MY,some→M0
open PySem.StrLaws renaming glued_eq_join→FP,join_length_le→Gx,removeprefix_eq→Hz,strSub_toList→JR,subAt_one→K0,subAt_eq→Ll,occ_head→Lm
open PyProof.Rows renaming callWith_type1→FU,callWith_builtin1→Lq,digit_range→MP,text_ofNat→MR,lt_int→Np
open PySem.Builtin.List renaming listTooLong→F3,listExtendWith→Ma
open PySem renaming strKind→F5,mem_of_lookup→Gr,Within→Kh,call→Lx,Str→NA,Fin→NJ
open False renaming elim→F6
open PySem.Builtin.Str renaming glued→F8,strSub→Kz
open PySem.F renaming plain_max_loop→Ge,plainAttrs_str→Gw,plainAttrs_list→GS,slot_str_split→GZ,args_str_split_2→Hr,entry_str_split→Hy,slot_str_removeprefix→Iw,slot_str_startswith→IM,slot_str_partition→IV,slot_list_extend→Jm,type_list_extend→Jn,plain_list_iadd→Js,entry_max_loop→JK,slot_tuple_lt→JO,args_list_extend_2→JW,entry_list_extend→J7,slot_str_lt→Kb,slot_list_extend→Ko,slot_int_rmul→Lw
open List.cons renaming inj→Gp
open PySem.Builtin.Range renaming rangeSize→Gq,small→IA,rangeFitsLong→L9
open Int renaming natCast_ediv→Gu,mul_lt_mul_of_pos_right→GE,lt_of_mul_lt_mul_right→GG,toNat_of_nonneg→Hl,eq_ofNat_of_zero_le→HH,mul_left_comm→HR,le_of_lt→Ik,natCast_mul→Iq,zero_add→Iv,natAbs_natCast→IJ,fdiv_eq_ediv_of_nonneg→IQ,mul_assoc→IU,toNat_natCast→IY,mul_comm→Jo,natCast_emod→Jq,mul_pos→JL,emod_lt_of_pos→Kw,emod_nonneg→LP,natCast_pos→LQ,natAbs_mul→LU,mul_nonneg→L1,mul_one→MV,le_refl→M1,not_lt→Nn
open PySem.Around renaming under_plainId→Hf,under→Jh
open PySem.Heap.SameBut renaming update→Hj
open PySem.SetTable renaming Probe→Hw,leap→HZ,bits→Ia,runEnd→LO
open Prod.mk renaming inj→HS
open PySem.AutoSeq1 renaming wpAny_loadPart'→Im,sub_tuple_tuple→Ji,list_extend_list_list_0→Le
open PyProof.Rows.SortSt renaming mk'→Ip
open PySem.SeqAt.EqAt renaming int_int→IH,int_str→Ke,str_int→Kg,none_bool→Ng,bool_none→Nh,bool_bool→Ni,none_int→Nq,none_str→Nr,bool_int→Nt,bool_str→Nu,int_none→Nv,int_bool→Nw,str_none→Ny,str_bool→Nz,str_str→NG,same→NU
open Or renaming inl→II,inr→NH
open PySem.Builtin.Builtins renaming bindParams→IL
open PySem.Calls renaming Name_function_global→IP,spliced_cons→Kl,spliced_nil→KP
open Classical renaming byContradiction→Jb
open Sum renaming inl→Jc,inr→Jd
open PyProof renaming noPylong_of_log2→Jk
open PySem.NumText renaming AllDigits→Jw
open And renaming intro→JE
open List.Perm renaming refl→JN,trans→NW,cons→NY
open PySem.W.KIN renaming val_back→JX,call_text→Nb,signs_num→Nc
open Int.ofNat renaming inj→J6
open PySem.Code renaming isFrame→Kk,isGuard→MI,frames→MX
open PySem.Heap.IsSliceOf renaming new→Kn
open PySem.W.Fast renaming tw10156331382660048174→KD,tw11892475500146522536→KE,tw14364793385576792824→KF,te10156331382660048174→KG,te11892475500146522536→KH,te14364793385576792824→KI,tw6613529449190102663→KJ,te6613529449190102663→KL,te9446332074065402090→KM
open PySem.AutoListH renaming list___mul___list_int_3→K6
open PySem.Builtin.Tuple renaming tupleCompareSizes→Lp
open PySem.SeqAt renaming EqAt→Lr,compareEq_reads→Mb,eqv_refl→Nm
open StateT renaming run_pure→LH
open Char renaming toNat→LR
open PySem.Paired renaming length→Md
open PySem.CmpOf renaming ints_gt→Mf
open PySem.SeqAt.RcNeAt renaming lists_lengths→Mg,lists→NI
open PySem.EqNone renaming eq_none_none→Mj,eq_none_bool→Ml,eq_bool_none→Mm,ne_none_none→Mp,ne_none_bool→Mq,ne_bool_none→Mr,eq_none_int→Mw,eq_none_str→Mx,eq_int_none→My,eq_str_none→MA,ne_none_int→MC,ne_none_str→MD,ne_int_none→ME,ne_str_none→MG
open PySem.EqMixed renaming eq_bool_str→Mn,eq_str_bool→Mo,ne_bool_str→Ms,ne_str_bool→Mt,eq_int_str→Mz,eq_str_int→MB,ne_int_str→MF,ne_str_int→MH
open PySem.W.OpenLaw renaming wellSaid→Mu
open List.Pairwise renaming imp_of_mem→MQ,nil→NO
open PySem.Data renaming fields→MT,cell→ND,seq→NR
open PySem.Walks renaming range→MU,tuple→MZ,list→Nj
open PySem.IsRange renaming new→MW
open PySem.W.KT renaming starts_app→Nd
open PySem.W.RowW renaming records→Nf
open PySem.Draws renaming list→Nk
open PySem.Flow renaming next→NB
open PyProof.Rows.IsTup renaming new→NC
open PySem.W.Looks renaming here→NF
open Lean.Name renaming mkSimple→NK
open PySem.Within renaming cons→NM
open PySem.Heap.Ns1 renaming of_empty→NN
open PySem.DictEntry renaming refKey→NP
open PySem.IsL renaming update→NQ
open Prod renaming ext→NS,snd→NT
open Array.Perm renaming refl→NX
open Function renaming comp→N0
open List.Mem renaming tail→N1,head→N2
open PySem renaming wpAny_bind→Oh,wpAny_pure→Oi,sizeLine_eq→Oj,foldedSetIterable→Ol,wpAny_mono→Om,starEach→On,compareOp→Oo,attributeBase→Oq,wpAny_truthy_bool→Os,wpAny_standAt→Ot,binaryOp→Ov,wpAny_Call_Name_kw→Ow,wpAny_holding→Ox,assignEach→Oy,wpAny_passesOwn→Oz,typeIs_str→OA,call_meets→OB,swapsWith→OC,wpAny_loadPart'→OD,inplaceOp→OF,standAt→OH,holding→OI,codeAny_mono→OJ,behindInMarks→OK,intItems→OL,sliceBounds→OM
open PyProof.Rows renaming IntsAre→Ou,get?_update_seq→OE,listUpdate_at→OG
set_option Elab.async false
set_option maxRecDepth 100000
set_option maxHeartbeats 0
namespace Fs
open PySem PySem.Spec PyProof.Rows
local macro_rules
 | `(tactic| o_head $_)=>`(tactic| assumption)
open PySem PySem.W PyProof.Rows in
theorem Kf(h:Ff.row.Holds):Ff.row.Holds:=by
 w_on;k_head
open PySem PySem.W PyProof.Rows in
def asF:List Addr:=[2,3,15,22,23,24,25,28,35,36,37,40,47,48,49,52,59,61,62,64,65,66,67,68,71,73,74,76,77,78,80,81,83,84,85,87,88,90,91,92,95,96,97,99,100,102,103,104,107,108,109,111,112,114,115,116,119,120,121,124,125,126,128,129,131,132,133,135,136,138,139,140,142,143,145,146,147,149,150,152,153,154,156,157,159,160,161,164,165,166,168,169,171,172,173,175,176,178,179,180,182,183,185,186,194,197,198,199,201,202,204,205,206,208,209,211,212,213,215,216,218,219,220,222,223,225,226,227,229,230,232,233,234,237,238,239,241,242,244,245,246,248,249,251,252,253,254,255,256,257,260,262,263,265,266,267,270,271,272,274,275,277,278,279,281,282,284,285,286,289,290,291,293,294,296,297,298,301,302,303,305,306,308,309,310,312,313,315,316,324,326,327,329,330,331,334,335,336,338,339,341,342,343,346,347,348,350,351,353,354,355,358,359,360,362,363,365,366,367,368,369,370,371,374,376,377,379,380,388,391,392,393,395,396,398,399,400,403,404,405,407,408,410,411,412,414,415,417,418,419,420,421,422,423,426,428,429,431,432,433,435,436,438,439,440,442,443,445,446,447,449,450,452,453,454,457,458,459,462,463,464,467,468,469,472,473,474,476,477,479,480,481,484,485,486,489,490,491,493,494,496,497,498,501,502,503,505,506,508,509,510,513,514,515,518,519,520,523,524,525,526,527,528,530,531,533,534,535,537,538,540,541,542,545,546,547,550,551,552,554,555,557,558,559,561,562,564,565,566,568,569,571,572,573,575,576,578,579,580,581,583,584,586,587,588,590,591,593,594,595,597,598,600,601,602,604,605,607,608,609,612,613,614,617,618,619,622,623,631,633,634,636,637,638,639,640,641,642,645,647,648,650,651,652,654,655,657,658,659,662,663,664,666,667,669,670,671,673,674,676,677,678,680,681,683,684,685,687,688,690,691,692,694,695,697,698,699,702,703,704,706,707,709,710,711,714,715,716,718,719,721,722,723,725,726,728,729,730,732,733,735,736,737,738,740,741,743,744,745,747,748,750,751,752,754,755,757,758,759,761,762,764,765,766,769,770,771,773,774,776,777,778,780,781,783,784,785,787,788,790,791,792,794,795,797,798,799,801,802,804,805,806,808,809,811,812,813,815,816,818,819,820,822,823,825,826,827,830,831,832,835,836,837,840,841,842,844,845,847,848,849,852,853,854,856,857,859,860,861,864,865,866,869,870,871,874,875]
open PySem PySem.W PyProof.Rows in
@[reducible] noncomputable def iH:Hook:=kmHook Kf.heap_1 asF (λ_=>by kernel_rfl) [536,181]
def DZ(i:Nat):Stmt:=EL.main.body.getD i (.Pass ⟨0,0,0,0⟩)
def vwF:Program:={ EL with main:={ EL.main with body:=[1,2,3,4,6,7,8,9,10,11,12,14,15,16,17,19,20,21,22,23,24,25,27,28,29,31,32,33,34,35,36,38,39,41,42,44,45,47,48,49,50,51,52,53,54,56,57,59,60,61,62,63,64,65,66,67,68,69,70,72,73,74,75,76,77,78,79,80,81,82,83,84,85,86,87,88,89,91,92,93,94,95,96,97,98,99,100,101,102,103,104,105,106,107,108,109,110,111,112,113,114,115,116,118,119,120,121,122,123,124,125,126,127,128,129,130,131,132].map DZ } }
def loF:List NA:=["AHEAD","DONE","READERS","ASKS"]
def xtF(s:Shared):Bool:=PySem.W.xlAt vwF [] s && PySem.W.recOk (Nf Ff.row.toRowW) s
open PySem.W in
noncomputable def vF(P:Params):BT:=((((((((((BT.nil.ins 0 (boot_o_0 P)).ins 1 (boot_o_1 P)).ins 2 (boot_o_2 P)).ins 3 (boot_o_3 P)).ins 4 (boot_o_4 P)).ins 5 (boot_o_5 P)).ins 6 (boot_o_6 P)).ins 7 (boot_o_7 P)).ins 8 (boot_o_8 P)).ins 9 (boot_o_9 P)).ins 10 (boot_o_10 P)
open PySem.W in
theorem r9(P:Params):absHeap (vF P) 11 (boot_heap P).life=boot_heap P:=by kernel_rfl
open PySem.W in
noncomputable def jc(p:Program)(w:World)(n0:Nat)(ann:Option Value):Nat->SharedT->Thread->Option SharedT
 | 0,_,_=>none
 | n+1,s,t=>match through t with
  | true=>some s
  | false=>match KJ n0 ann t with
   | false=>none
   | true=>match KD (KE KF) p w s t with
    | some (s',t')=>jc p w n0 ann n s' t'
    | none=>none
open PySem.W in
theorem iT{p:Program}{w:World}{n0:Nat}{ann:Option Value}:∀{n:Nat}{s s':SharedT}{t:Thread},jc p w n0 ann n s t=some s'->topRun treeTable p w n0 ann n s.abs t=some s'.abs
 | 0,_,_,_,h=>by cases h
 | n+1,s,s',t,h=>by
  unfold jc at h;rw[<-KL,<-KG,<-KH,<-KI]at h;unfold topRun;cases ht:through t with
  | true=>rw[ht]at h;cases h;rfl
  | false=>
   rw[ht]at h;cases hk:stepOk n0 ann t with
   | false=>rw[hk]at h;cases h
   | true=>
    rw[hk]at h;cases hs:stepT (denote treeTable) p w s t with
    | none=>rw[hs]at h;cases h
    | some r=>obtain⟨s2,t2⟩:=r;rw[hs]at h;rw[stepT_spec hs];exact iT h
open PySem.W in
theorem BC{p q:Program}{loose:List NA}{Xt:Shared->Bool}{α:Type}{Yf:Shared->α}{Ya:World->α}{N:Nat}{g0:Bool}(row:String)
  (h:∀(b:Bool) (w:World),(fencedOpening treeTable p w N).map (λs₀=>(topFrom treeTable p (w.withFollow row b) N s₀).map (λs=>(openSeen q loose (importedModules p.main.body) Xt g0 s,Yf s)))=some (some (openGood q loose,Ya (w.withFollow row b)))):LeftO p q loose Xt Yf Ya N g0:=by
 refine LeftO.of_split row λw=>?_
 obtain⟨s,a,b⟩:=FJ.mp (h false w);obtain⟨s',a',b'⟩:=FJ.mp (h true w);rw[a]at a';cases a';rw[a,Jx,b,b']
open PySem.W in
def Bj (b:Bool) (w:World):Prop:=(fencedOpening treeTable EL w 11516).map (λs₀=>(topFrom treeTable EL (w.withFollow "special-get-raises" b) 11516 s₀).map (λs=>(openSeen vwF loF (importedModules EL.main.body) xtF true s,Hook.obs iH s)))=some (some (openGood vwF loF,Hook.val iH (w.withFollow "special-get-raises" b)))
open PySem.W in
noncomputable def vG (b:Bool) (w:World) (os:OsState):Option SharedT:=jc EL (w.withFollow "special-get-raises" b) 11 ((boot_heap w.params).nsMap mainGlobals "__annotations__") 11516 ⟨vF w.params,11,(boot_heap w.params).life,Array.mk [],boot_drawn,boot_toks,os⟩ (topStub EL)
open PySem.W in
def Pt0(b:Bool)(w:World):Prop:=(λos=>(vG b w os).map (λsT=>((staticsOk (importedModules EL.main.body) (boot_heap w.params) sT.abs.heap && namesBound EL sT.abs.heap && gensDone sT.abs && laidKept (boot_heap w.params) sT.abs.heap),sT.abs.heap.bltView,(true && sT.abs.heap.accountedOkI (importedModules EL.main.body) && sT.abs.heap.isNs mainGlobals && sT.abs.heap.isNs builtinsNs && tablesOk vwF sT.abs.heap && xtF sT.abs && (if true=true then sT.abs.gens.size == 0 else !leftWithCleanup sT.abs.gens)),plainSeenD vwF loF sT.abs,clsSeenW vwF loF sT.abs,pinSeenD vwF (drecsOf vwF) sT.abs)))=λ_=>some (true,bltViewBooted,true,plainGoodD vwF loF,clsGoodW vwF loF,pinGoodD (drecsOf vwF))
open PySem.W in
def Pt1(b:Bool)(w:World):Prop:=(λos=>(vG b w os).map (λsT=>seen ((recsOf vwF).map (·.name)) (ownsOf vwF) [] { sT.abs with gens:=#[] }))=λ_=>some (expectedOf vwF)
open PySem.W in
def Pt2(b:Bool)(w:World):Prop:=(λos=>(vG b w os).map (λsT=>sT.abs.heap.keysOk (looseW vwF loF) ((recsOf vwF).map (·.name)) ((litsOf vwF).map (·.1)) ((clssOf vwF (looseW vwF loF)).map (·.name))))=λ_=>some (true)
open PySem.W in
def Pt3(b:Bool)(w:World):Prop:=(λos=>(vG b w os).map (λsT=>tabsOk vwF sT.abs))=λ_=>some (true)
open PySem.W in
def Pt4(b:Bool)(w:World):Prop:=(λos=>(vG b w os).map (λsT=>plainSeenE vwF (looseW vwF loF) sT.abs))=λ_=>some (plainGoodE vwF (looseW vwF loF))
open PySem.W in
def Pt5(b:Bool)(w:World):Prop:=(λos=>(vG b w os).map (λsT=>wideSeen vwF sT.abs))=λ_=>some (wideGood vwF)
open PySem.W in
def Pt6 (b:Bool) (w:World):Prop:=(λos=>(vG b w os).map (λsT=>Hook.obs iH sT.abs))=λ_=>some (Hook.val iH (w.withFollow "special-get-raises" b))
open PySem.W in
theorem BD(P:Params):((boot_heap P).isNs mainGlobals,(boot_heap P).objs.size)=(true,11):=by kernel_rfl
open PySem.W in
theorem yL:opening EL=plainProg EL.main.scope.names:=by rfl
open PySem.W in
theorem yM(s:Shared):fenceModules? EL s=some s:=by rfl
theorem BE:Mu Ff=true:=by rw[KM];kernel_rfl
open PySem.W in
theorem D0:(chainsOk vwF && opensWell Ff.row.prog && (frees Ff.row.toRowW && Ff.row.within.isEmpty))=true:=by decide +kernel
theorem yN:Ff.row.prog.bare:=⟨rfl,rfl,rfl,rfl,rfl,by decide +kernel⟩
theorem p0f(w:World):Pt0 false w:=by unfold Pt0;kernel_rfl
theorem p0t(w:World):Pt0 true w:=by unfold Pt0;kernel_rfl
theorem p1f(w:World):Pt1 false w:=by unfold Pt1;kernel_rfl
theorem p1t(w:World):Pt1 true w:=by unfold Pt1;kernel_rfl
theorem p2f(w:World):Pt2 false w:=by unfold Pt2;kernel_rfl
theorem p2t(w:World):Pt2 true w:=by unfold Pt2;kernel_rfl
theorem p3f(w:World):Pt3 false w:=by unfold Pt3;kernel_rfl
theorem p3t(w:World):Pt3 true w:=by unfold Pt3;kernel_rfl
theorem p4f(w:World):Pt4 false w:=by unfold Pt4;kernel_rfl
theorem p4t(w:World):Pt4 true w:=by unfold Pt4;kernel_rfl
theorem p5f(w:World):Pt5 false w:=by unfold Pt5;kernel_rfl
theorem p5t(w:World):Pt5 true w:=by unfold Pt5;kernel_rfl
theorem p6f(w:World):Pt6 false w:=by unfold Pt6;kernel_rfl
theorem p6t(w:World):Pt6 true w:=by unfold Pt6;kernel_rfl
open PySem.W in
theorem uJ{b:Bool}{w:World}(q0:Pt0 b w)(q1:Pt1 b w)(q2:Pt2 b w)(q3:Pt3 b w)(q4:Pt4 b w)(q5:Pt5 b w)(q6:Pt6 b w):Bj b w:=by
 obtain⟨⟨hp,gs,d,k,os⟩,e,e'⟩:=FJ.mp (boot_open (p:=EL) (N:=11516) yL rfl yM w);obtain⟨rfl,rfl,rfl,rfl⟩:hp=boot_heap w.params/\gs=Array.mk []/\d=boot_drawn/\k=boot_toks:=by simpa using e'
 obtain⟨sT,hs,v0⟩:=FJ.mp (congrFun q0 os);have v1:=congrFun q1 os;rw[hs]at v1;replace v1:=EY v1;dsimp only at v1;have v2:=congrFun q2 os;rw[hs]at v2;replace v2:=EY v2;dsimp only at v2;have v3:=congrFun q3 os;rw[hs]at v3;replace v3:=EY v3;dsimp only at v3;have v4:=congrFun q4 os;rw[hs]at v4;replace v4:=EY v4;dsimp only at v4;have v5:=congrFun q5 os;rw[hs]at v5;replace v5:=EY v5;dsimp only at v5;have v6:=congrFun q6 os;rw[hs]at v6;replace v6:=EY v6;dsimp only at v6;obtain⟨y0_0,z0_0⟩:=HS v0;obtain⟨y0_1,z0_1⟩:=HS z0_0;obtain⟨y0_2,z0_2⟩:=HS z0_1;obtain⟨y0_3,z0_3⟩:=HS z0_2;obtain⟨y0_4,z0_4⟩:=HS z0_3;have r:=iT hs;rw[show SharedT.abs ⟨vF w.params,11,(boot_heap w.params).life,Array.mk [],boot_drawn,boot_toks,os⟩=⟨boot_heap w.params,Array.mk [],boot_drawn,boot_toks,os⟩by unfold SharedT.abs;rw[r9]]at r;obtain⟨z1,z2⟩:=HS (BD w.params);unfold Bj;rw[e];refine congrArg some ?_;have tf:topFrom treeTable EL (w.withFollow "special-get-raises" b) 11516 ⟨boot_heap w.params,Array.mk [],boot_drawn,boot_toks,os⟩=some sT.abs:=by
  unfold topFrom;dsimp only;rw[z1,z2,r];show(match _ with|true=>some sT.abs|false=>none)=_
  rw[y0_0]
 show Option.map _ (topFrom treeTable EL (w.withFollow "special-get-raises" b) 11516 ⟨boot_heap w.params,Array.mk [],boot_drawn,boot_toks,os⟩)=_
 rw[tf];refine congrArg some (congr (congrArg Prod.mk ?_) v6);unfold openSeen openGood;rw[v1,y0_1,v2,y0_2,v3,z0_4,v4,y0_3,v5,y0_4]
theorem BF(w:World):Bj false w:=uJ (p0f w) (p1f w) (p2f w) (p3f w) (p4f w) (p5f w) (p6f w)
theorem BG(w:World):Bj true w:=uJ (p0t w) (p1t w) (p2t w) (p3t w) (p4t w) (p5t w) (p6t w)
open PySem.W in
theorem BH:LeftO EL vwF loF xtF (Hook.obs iH) (Hook.val iH) 11516:=BC "special-get-raises" λb w=>by cases b;exact BF w;exact BG w
end Fs
set_option compiler.extract_closed false
set_option Elab.async false
set_option linter.all false
set_option maxRecDepth 100000
namespace L2
open PySem PySem.Spec PyProof.Rows
noncomputable abbrev Key:=Sum Int Str
noncomputable def yO:Key->Value->Bool
 | .inl k,v=>Value.isInt k v
 | .inr x,v=>FL x v
noncomputable def D1(w:World):Key->Int
 | .inl k=>hashInt k
 | .inr x=>hashStr w x
theorem bE:∀{k:Key}{v:Value},yO k v=true->(∃i t,k=Jc i/\v=G9 i t)\/(∃x t,k=Jd x/\v=GU x t)
 | .inl i,v,h=>by
  obtain⟨t,e⟩:=Value.isInt_shape (k:=i) (v:=v) h;exact .inl ⟨i,t,rfl,e⟩
 | .inr x,v,h=>by
  obtain⟨t,e⟩:=Value.isStrOf_shape (x:=x) (v:=v) h;exact .inr ⟨x,t,rfl,e⟩
theorem yP(a b:Int):decide ((Jc a:Key)=Jc b)=(a == b):=by
 by_cases e:a=b
 ·subst e;simp
 ·have h:¬(Jc a:Key)=Jc b:=λq=>e (Sum.inl.inj q)
  rw[decide_eq_false h];exact(beq_eq_false_iff_ne.mpr e).symm
theorem yQ(a b:Str):decide ((Jd a:Key)=Jd b)=decide (a=b):=by
 by_cases e:a=b
 ·subst e;simp
 ·have h:¬(Jd a:Key)=Jd b:=λq=>e (Sum.inr.inj q)
  rw[decide_eq_false h,decide_eq_false e]
theorem yR(a:Int)(b:Str):decide ((Jc a:Key)=Jd b)=false:=decide_eq_false (λq=>nomatch q)
theorem yS(a:Str)(b:Int):decide ((Jd a:Key)=Jc b)=false:=decide_eq_false (λq=>nomatch q)
noncomputable def kX(prog:Program)(w:World):PySem.KeyKind prog w Key where
 is:=yO
 hash:=D1 w
 inj:=λv a b ha hb=>by
  rcases bE ha with⟨i,t,rfl,rfl⟩|⟨x,t,rfl,rfl⟩
  ·rcases bE hb with⟨j,u,rfl,e⟩|⟨y,u,rfl,e⟩
   ·injection e with e1 _;rw[e1]
   ·exact nomatch e
  ·rcases bE hb with⟨j,u,rfl,e⟩|⟨y,u,rfl,e⟩
   ·exact nomatch e
   ·injection e with e1 _;rw[e1]
 byValue:=λk v h=>by
  rcases bE h with⟨i,t,rfl,rfl⟩|⟨x,t,rfl,rfl⟩<;>rfl
 pyHash:=λhv h=>by
  rcases bE hv with⟨i,t,rfl,rfl⟩|⟨x,t,rfl,rfl⟩
  ·exact wpAny_pyHash_int h
  ·exact wpAny_pyHash_str h
 eqBool:=λhu hv h=>by
  rcases bE hu with⟨i,t,rfl,rfl⟩|⟨x,t,rfl,rfl⟩
  ·rcases bE hv with⟨j,u,rfl,rfl⟩|⟨y,u,rfl,rfl⟩
   ·rw[yP]at h;exact wpAny_eqBool_int h
   ·rw[yR]at h;exact Ke i t y u _ _ _ _ h
  ·rcases bE hv with⟨j,u,rfl,rfl⟩|⟨y,u,rfl,rfl⟩
   ·rw[yS]at h;exact Kg x t j u _ _ _ _ h
   ·rw[yQ]at h;exact wpAny_eqBool_str h
 «strs»:=λk x t v h=>by
  rcases bE h with⟨i,u,rfl,e⟩|⟨y,u,rfl,e⟩
  ·exact nomatch e
  ·injection e with e1 _
   subst e1;cases v<;>rfl
inductive V where
 | non|bl (b:Bool)|int (i:Int)|str (x:Str)|byt (b:Array UInt8)|flt (b:UInt64)|ref (a:Addr)|ty (n:String)
 deriving DecidableEq
noncomputable def RelV:V->Value->Prop
 | .non,u=>u=Ft
 | .bl b,u=>u=Ja b
 | .int i,u=>∃t,u=G9 i t
 | .str x,u=>∃t,u=GU x t
 | .byt b,u=>∃t,u=MS b t
 | .flt b,u=>∃t,u=K5 b t
 | .ref a,u=>u=Fi a
 | .ty n,u=>u=Gh n
abbrev Vals:List V->List Value->Prop:=Paired RelV
theorem Vals.length{xs:List V}{us:List Value}(r:Vals xs us):xs.length=us.length:=Md r
theorem Vals.get:∀{xs:List V}{us:List Value}{i:Nat}{x:V},Vals xs us->xs[i]? = some x->∃u,us[i]? = some u/\RelV x u
 | _,_,_,_,.nil,e=>by simp at e
 | _,_,0,_,.cons r _,e=>by simp at e;subst e;exact⟨_,rfl,r⟩
 | _,_,i+1,x,.cons _ t,e=>by
  obtain⟨u,h1,h2⟩:=Vals.get (i:=i) (x:=x) t (by simpa using e);exact⟨u,by simpa using h1,h2⟩
theorem Vals.set{x:V}{u:Value}(r:RelV x u):∀{xs:List V}{us:List Value}(i:Nat),Vals xs us->Vals (xs.set i x) (us.set i u)
 | _,_,_,.nil=>.nil
 | _,_,0,.cons _ t=>.cons r t
 | _,_,i+1,.cons q t=>.cons q (Vals.set r i t)
theorem Vals.append:∀{xs ys:List V}{us ws:List Value},Vals xs us->Vals ys ws->Vals (xs++ys) (us++ws)
 | _,_,_,_,.nil,s=>s
 | _,_,_,_,.cons r t,s=>.cons r (Vals.append t s)
theorem Vals.take:∀{xs:List V}{us:List Value}(n:Nat),Vals xs us->Vals (xs.take n) (us.take n)
 | _,_,0,_=>.nil
 | _,_,_+1,.nil=>.nil
 | _,_,n+1,.cons r t=>.cons r (Vals.take n t)
theorem Vals.drop:∀{xs:List V}{us:List Value}(n:Nat),Vals xs us->Vals (xs.drop n) (us.drop n)
 | _,_,0,r=>r
 | _,_,_+1,.nil=>.nil
 | _,_,n+1,.cons _ t=>Vals.drop n t
noncomputable def RelO:Option V->Option Value->Prop
 | some v,some u=>RelV v u
 | none,none=>True
 | _,_=>False
def KV{κ:Type}:List (κ×V)->List (κ×Value)->Prop:=Paired λ(p:κ×V) (q:κ×Value)=>p.1=q.1/\RelV p.2 q.2
noncomputable def kV:Key->V
 | .inl i=>.int i
 | .inr x=>.str x
inductive HO where
 /-- a list -/
 | lst (xs:List V)
 /-- a tuple (never changes) -/
 | tup (xs:List V)
 /-- a dict whose keys are ints and texts;one whose keys are tuples of ints and texts (the empty one is both) -/
 | dK (kvs:List (Key×V))|dT (kvs:List (List Key×V))
 /-- a set of ints: its members,its size -/
 | set (S:Int->Bool) (n:Nat)
 /-- an instance of the class at C,its dict at dx,its attributes -/
 | ins (C dx:Addr) (fs:List (Str×V))
 /-- the dict of the instance at x -/
 | own (x:Addr)
 /-- the dict of an exception -/
 | xd (fs:List (Str×V))
 /-- a bound method,f of x -/
 | met (f x:Addr)
 /-- a range object lo,lo+1,.. below hi -/
 | rng (lo hi:Int)
 /-- a thing that is known to the object (the script;a dict while a loop walks it): read,never written while it is so -/
 | frz (o:Obj) (u:HO)
 /-- a code object's table -/
 | tbl (ps:Array Value)
 /-- any other thing,by what is true of its one object (a def of one's own: SetO a S n:=HO.ext λh=>..) -/
 | ext (φ:Heap->Prop)
noncomputable abbrev Hp:=Addr->Option HO
noncomputable def upd(H:Hp)(a:Addr)(o:HO):Hp:=λb=>if b=a then some o else H b
theorem ae{H:Hp}{a:Addr}{o:HO}:upd H a o a=some o:=by unfold upd;rw[if_pos rfl]
theorem ak{H:Hp}{a b:Addr}{o:HO}(h:b≠a):upd H a o b=H b:=by unfold upd;rw[if_neg h]
theorem vH{H:Hp}{a:Addr}{o u:HO}:upd (upd H a o) a u=upd H a u:=by
 funext b;unfold upd;split<;>rfl
theorem fm{H:Hp}{a b:Addr}{o u:HO}(h:H a=some o)(h':H b=some u)(d:o≠u):a≠b:=by
 intro e;subst e;rw[h]at h';exact d (EY h')
theorem ao{H:Hp}{a b:Addr}{o:HO}(h:H a=some o)(h':H b=none):a≠b:=by
 intro e;subst e;rw[h]at h';cases h'
section
variable(P:Program)(w:World)
noncomputable def ObjOk(H:Hp)(h:Heap)(a:Addr):HO->Prop
 | .lst xs=>xs.length<=sizeLine/\∃(its:List Value) (n:Nat),Vals xs its/\h.get? a=some { cls:=.type "list",data:=.seq its.toArray n }
 | .tup xs=>xs.length<=sizeLine/\∃its:List Value,Vals xs its/\IsTup h a its.toArray
 | .dK kvs=>kvs.length<=sizeLine/\(a == sysModules)=false/\∃vs,KV kvs vs/\h.DictOf (kX P w) a vs
 | .dT kvs=>kvs.length<=sizeLine/\(a == sysModules)=false/\∃xs:List (List Key×Addr×Value),
   Paired (λ(p:List Key×V) (q:List Key×Addr×Value)=>p.1=q.1/\H q.2.1=some (.tup (p.1.map kV))/\RelV p.2 q.2.2) kvs xs/\
   ∃o es ep,h.get? a=some o/\o.ExactDict/\o.data=.dict es ep/\es.toList=xs.map (entryOfKey (tupleKind (kX P w)))/\(xs.map (·.1)).Nodup
 | .set S n=>h.SetOf (intKind P w) a S n
 | .ins C dx fs=>H dx=some (.own a)/\fs.length<=1000/\dx≠a/\h.get? a=some (Gi C dx)/\
   ∃mA,h.Ns1 dx mA/\(∀f,RelO (fs.lookup f) (mA f))/\Kh mA (fs.map (·.1))
 | .own _=>∃o,h.get? a=some o
 | .xd fs=>∃mA,h.Ns1 a mA/\∀f,RelO (fs.lookup f) (mA f)
 | .rng lo hi=>∃t u v,h.get? a=some { cls:=.type "range",data:=.fields #[.int lo t,.int hi u,.int 1 v] }
 | .frz o u=>h.get? a=some o/\ObjOk H h a u
 | .tbl ps=>h.get? a=some { cls:=.none,data:=.fields ps }
 | .met f x=>h.get? a=some (IW (.ref f) (.ref x))
 | .ext φ=>φ h/\(∃o,h.get? a=some o)/\∀h1 h2:Heap,φ h1->(∀o,h1.get? a=some o->h2.get? a=some o)->φ h2
def HOk(H:Hp)(h:Heap):Prop:=∀a o,H a=some o->ObjOk P w H h a o
end
section
variable{P:Program}{w:World}{H H':Hp}{h h':Heap}{a:Addr}{o:HO}
theorem ObjOk.lt(x:ObjOk P w H h a o):a<h.objs.size:=by
 cases o with
 | lst xs=>obtain⟨_,_,_,_,e⟩:=x;exact EV e
 | tup xs=>obtain⟨_,_,_,p⟩:=x;exact p.lt
 | dK kvs=>obtain⟨_,_,_,_,o,_,_,e,_⟩:=x;exact EV e
 | dT kvs=>obtain⟨_,_,_,_,o,_,_,e,_⟩:=x;exact EV e
 | set S n=>obtain⟨o,_,_,_,e,_⟩:=x;exact EV e
 | ins C dx fs=>obtain⟨_,_,_,e,_⟩:=x;exact EV e
 | own y=>obtain⟨_,e⟩:=x;exact EV e
 | xd fs=>obtain⟨_,⟨_,_,_,e,_⟩,_⟩:=x;exact EV e
 | rng lo hi=>obtain⟨_,_,_,e⟩:=x;exact EV e
 | frz ob u=>obtain⟨e,_⟩:=x;exact EV e
 | tbl ps=>exact EV (show h.get? a=some _ from x)
 | met f y=>exact EV (show h.get? a=some _ from x)
 | ext φ=>obtain⟨_,⟨_,e⟩,_⟩:=x;exact EV e
theorem Paired.mapP{α β:Type}{F G:α->β->Prop}:∀{l₁:List α}{l₂:List β},Paired F l₁ l₂->(∀a b,F a b->G a b)->Paired G l₁ l₂
 | _,_,.nil,_=>.nil
 | _,_,.cons r t,f=>.cons (f _ _ r) (Paired.mapP t f)
theorem ObjOk.stay(x:ObjOk P w H h a o)(k:∀b u,(b=a\/H b=some (.own a))->h.get? b=some u->h'.get? b=some u)
  (ho:∀b,H b=some (.own a)->H' b=some (.own a)) (ht:∀b xs,H b=some (.tup xs)->H' b=some (.tup xs)):ObjOk P w H' h' a o:=by
 induction o with
 | lst xs=>obtain⟨z,its,n,r,e⟩:=x;exact⟨z,its,n,r,k _ _ (.inl rfl) e⟩
 | tup xs=>obtain⟨z,its,r,ob,e,c⟩:=x;exact⟨z,its,r,ob,k _ _ (.inl rfl) e,c⟩
 | dK kvs=>obtain⟨z,y,vs,r,ob,es,ep,e,c⟩:=x;exact⟨z,y,vs,r,ob,es,ep,k _ _ (.inl rfl) e,c⟩
 | dT kvs=>
  obtain⟨z,y,xs,r,ob,es,ep,e,c⟩:=x;exact⟨z,y,xs,Paired.mapP r λp q z=>⟨z.1,ht _ _ z.2.1,z.2.2⟩,ob,es,ep,k _ _ (.inl rfl) e,c⟩
 | set S n=>obtain⟨ob,es,ep,t,e,c⟩:=x;exact⟨ob,es,ep,t,k _ _ (.inl rfl) e,c⟩
 | ins C dx fs=>
  obtain⟨d,z,ne,e,mA,⟨od,es,ep,e2,c⟩,r⟩:=x;exact⟨ho _ d,z,ne,k _ _ (.inl rfl) e,mA,⟨od,es,ep,k _ _ (.inr d) e2,c⟩,r⟩
 | own y=>obtain⟨ob,e⟩:=x;exact⟨ob,k _ _ (.inl rfl) e⟩
 | xd fs=>obtain⟨mA,⟨od,es,ep,e,c⟩,r⟩:=x;exact⟨mA,⟨od,es,ep,k _ _ (.inl rfl) e,c⟩,r⟩
 | rng lo hi=>obtain⟨t,u,v,e⟩:=x;exact⟨t,u,v,k _ _ (.inl rfl) e⟩
 | frz ob u ih=>obtain⟨e,q⟩:=x;exact⟨k _ _ (.inl rfl) e,ih q⟩
 | tbl ps=>
  have e:h.get? a=some { cls:=.none,data:=.fields ps }:=x;show h'.get? a=some { cls:=.none,data:=.fields ps }
  exact k a _ (.inl rfl) e
 | met f y=>
  have e:h.get? a=some (IW (.ref f) (.ref y)):=x;show h'.get? a=some (IW (.ref f) (.ref y))
  exact k a _ (.inl rfl) e
 | ext φ=>obtain⟨p,⟨o,e⟩,st⟩:=x;exact⟨st _ _ p λo q=>k _ _ (.inl rfl) q,⟨o,k _ _ (.inl rfl) e⟩,st⟩
theorem HOk.lt(x:HOk P w H h)(e:H a=some o):a<h.objs.size:=(x a o e).lt
theorem HOk.fresh(x:HOk P w H h)(e:h.objs.size<=a):H a=none:=by
 cases q:H a with
 | none=>rfl
 | some u=>exact absurd (Fb (x.lt q) e) (FM _)
theorem HOk.kept(x:HOk P w H h)(k:∀b u,h.get? b=some u->h'.get? b=some u):HOk P w H h':=λa o e=>
 (x a o e).stay (λb u _ q=>k b u q) (λ_ q=>q) λ_ _ q=>q
theorem HOk.laid(x:HOk P w H h)(k:∀b u,h.get? b=some u->h'.get? b=some u)(hp:h.objs.size<=a)(new:ObjOk P w (upd H a o) h' a o):HOk P w (upd H a o) h':=λb u e=>by
 have hn:=x.fresh hp;by_cases hb:b=a
 ·subst hb;rw[ae]at e;cases e;exact new
 ·rw[ak hb]at e
  exact(x b u e).stay (λc v _ q=>k c v q) (λc q=>by rw[ak (ao q hn)];exact q) λc xs q=>by rw[ak (ao q hn)];exact q
end
def Rd(H:Hp)(a:Addr)(u:HO):Prop:=H a=some u\/∃o,H a=some (.frz o u)
theorem Rd.ok{P:Program}{w:World}{H:Hp}{h:Heap}{a:Addr}{u:HO}(r:Rd H a u)(x:HOk P w H h):ObjOk P w H h a u:=by
 rcases r with r|⟨o,r⟩
 ·exact x a u r
 ·obtain⟨_,q⟩:=x a _ r
  exact q
noncomputable def Mut:Option HO->Prop
 | some (.lst _)=>True
 | some (.dK _)=>True
 | some (.dT _)=>True
 | some (.set _ _)=>True
 | some (.ins _ _ _)=>True
 | some (.ext _)=>True
 | _=>False
section
variable{P:Program}{w:World}{H:Hp}{h h':Heap}{x e:Addr}{o':HO}
theorem HOk.write(ok:HOk P w H h)(mu:Mut (H x))(he:e=x\/H e=some (.own x))(k:∀b u,b≠e->h.get? b=some u->h'.get? b=some u)(heo:∃u,h'.get? e=some u)
  (new:ObjOk P w (upd H x o') h' x o'):HOk P w (upd H x o') h':=λb u q=>by
 have nown:∀c y,H c=some (.own y)->c≠x:=λc y r z=>by subst z;rw[r]at mu;exact mu
 have ntup:∀c xs,H c=some (.tup xs)->c≠x:=λc xs r z=>by subst z;rw[r]at mu;exact mu
 by_cases hb:b=x
 ·subst hb;rw[ae]at q;cases q;exact new
 ·rw[ak hb]at q
  by_cases hbe:b=e
  ·have q':H b=some (.own x):=by
    rcases he with z|z
    ·exact absurd (hbe.trans z) hb
    ·rw[hbe];exact z
   rw[q]at q';cases q';obtain⟨v,hv⟩:=heo;exact⟨v,by rw[hbe];exact hv⟩
  ·refine(ok b u q).stay (λc v hc r=>k c v ?_ r) (λc r=>by rw[ak (nown c b r)];exact r) λc xs r=>by rw[ak (ntup c xs r)];exact r
   rcases hc with rfl|hc
   ·exact hbe
   ·rintro rfl
    rcases he with z|z
    ·exact nown c b hc z
    ·rw[hc]at z;cases z;exact hb rfl
end
structure Un (fs ex:List Addr) (H H':Hp) (h h':Heap):Prop where
 keep:∀b o,h.get? b=some o->H b=none->b∉fs->b∉ex->h'.get? b=some o
 slot:∀b o,h.get? b=some o->H b=none->b∈fs->b∉ex->∃sl,h'.get? b=some { o with slots:=sl }
 free:∀b o,h.get? b=some o->H b=none->b∉ex->H' b=none
 there:∀b o,h.get? b=some o->b∉ex->∃o',h'.get? b=some o'
 tups:∀b xs,H b=some (.tup xs)->H' b=some (.tup xs)
 frzs:∀b o u,H b=some (.frz o u)->H' b=some (.frz o u)
 tbls:∀b ps,H b=some (.tbl ps)->∃more,H' b=some (.tbl (ps++more))
section
variable{fs fs' ex ex':List Addr}{H H1 H2:Hp}{h h1 h2 h':Heap}{a x e:Addr}{o:HO}
theorem Un.any(u:Un fs ex H H1 h h1){b:Addr}{ob:Obj}(q:h.get? b=some ob)(n:H b=none)(hx:b∉ex):∃sl,h1.get? b=some { ob with slots:=sl }:=by
 by_cases hb:b∈fs
 ·exact u.slot b ob q n hb hx
 ·exact⟨ob.slots,u.keep b ob q n hb hx⟩
theorem Un.kept(k:∀b u,h.get? b=some u->h'.get? b=some u):Un fs ex H H h h':=
 ⟨λb ob q _ _ _=>k b ob q,λb ob q _ _ _=>⟨ob.slots,k b ob q⟩,λ_ _ _ n _=>n,λb ob q _=>⟨ob,k b ob q⟩,λ_ _ q=>q,λ_ _ _ q=>q,λ_ ps q=>⟨#[],by rw[q];simp⟩⟩
theorem Un.refl:Un fs ex H H h h:=Un.kept λ_ _ q=>q
theorem Un.laid(k:∀b u,h.get? b=some u->h'.get? b=some u)(hp:h.objs.size<=a)(hn:H a=none):Un fs ex H (upd H a o) h h' where
 keep:=λb u q _ _ _=>k b u q
 slot:=λb u q _ _ _=>⟨u.slots,k b u q⟩
 free:=λb u q n _=>by rw[ak (Fc (Fb (EV q) hp))];exact n
 there:=λb u q _=>⟨u,k b u q⟩
 tups:=λb xs q=>by rw[ak (ao q hn)];exact q
 frzs:=λb u xs q=>by rw[ak (ao q hn)];exact q
 tbls:=λb ps q=>⟨#[],by rw[ak (ao q hn),q];simp⟩
theorem Un.write(mu:Mut (H x))(he:e=x\/H e=some (.own x))(k:∀b u,b≠e->h.get? b=some u->h'.get? b=some u)(heo:∃u,h'.get? e=some u):Un fs ex H (upd H x o) h h':=by
 have hx:∀b,H b=none->b≠x:=λb n z=>by subst z;rw[n]at mu;exact mu
 have hb:∀b,H b=none->b≠e:=λb n z=>by
  subst z;rcases he with r|r
  ·exact hx b n r
  ·rw[n]at r;cases r
 have hm:∀b u,H b=some u->¬Mut (some u)->b≠x:=λb u q nm z=>by subst z;rw[q]at mu;exact nm mu
 refine⟨λb u q n _ _=>k b u (hb b n) q,λb u q n _ _=>⟨u.slots,k b u (hb b n) q⟩,λb u q n _=>by rw[ak (hx b n)];exact n,λb u q _=>?_,
  λb xs q=>by rw[ak (hm b _ q λz=>z)];exact q,λb u xs q=>by rw[ak (hm b _ q λz=>z)];exact q,λb ps q=>⟨#[],by rw[ak (hm b _ q λz=>z),q];simp⟩⟩
 by_cases hbe:b=e
 ·subst hbe;exact heo
 ·exact⟨u,k b u hbe q⟩
end
noncomputable def trk(h:Heap)(H:Hp):List Addr:=(EZ h.objs.size).filter λa=>(H a).isSome
noncomputable def rV(h:Heap)(H:Hp):Heap:=PySem.W.hideAll h (trk h H)
theorem oy(h:Heap)(H:Hp):(rV h H).objs.size=h.objs.size:=PySem.W.hideAll_size _ _
theorem se{h:Heap}{H:Hp}{b:Addr}{o:Obj}(e:h.get? b=some o)(n:H b=none):(rV h H).get? b=some o:=
 PySem.W.hideAll_get _ e λhm=>by
  have q:(H b).isSome=true:=(Jy.mp hm).2;rw[n]at q;simp at q
theorem vI{h:Heap}{H:Hp}{b:Addr}{o:Obj}(e:(rV h H).get? b=some o):h.get? b=some o/\H b=none:=by
 have e':h.get? b=some o:=PySem.W.of_hideAll (trk h H) e;refine⟨e',?_⟩;cases q:H b with
 | none=>rfl
 | some x=>
  have hm:b∈trk h H:=Jy.mpr ⟨FE.mpr (EV e'),by simp[q]⟩;have z:(rV h H).get? b=none:=PySem.W.hideAll_none (trk h H) hm;rw[z]at e;cases e
noncomputable def vJ(g h:Heap)(L:Addr):List (Addr×Obj):=(EZ h.objs.size).filterMap λa=>if a=L\/(g.get? a).isSome=true then none else(h.get? a).map λo=>(a,o)
noncomputable def dm(g h:Heap)(L d:Addr):List (Addr×Obj):=(vJ g h L).filter λp=>decide (p.1≠d)
structure Mod (K:EG) (mg:Str->Option Value) (base:Heap):Prop where
 kin:K.In base
 glob:base.Ns mainGlobals mg
 blt:∃mb,base.Ns builtinsNs mb/\∀x:Str,x≠"__name__"->mb x=bootBuiltins x
 nolimit:base.NoLimit
/-- the context: a def's body (or a comprehension's block) running. base: fixed through the whole law;s₀,H₀: the entry;outer: the frames whose slots others may change (a def's callers);stack: all frames that run;
   ex: iterators that were made ahead of the entry and are walked here (a comprehension's);fn: the names whose cells were made at the entry (a def: all;a comprehension's block: its own);calm: not within an except suite;pn: pins that every state bears;xe: what is wanted of an exception that leaves the code -/
structure Cx where
 prog:Program
 w:World
 K:EG
 mg:Str->Option Value
 base:Heap
 A:Around
 N:List Str
 s₀:Shared
 H₀:Hp
 env:Env
 outer:List Env
 stack:List Env
 ex:List Addr
 fn:Str->Bool
 calm:Bool
 pn:List (Addr×Obj)
 xe:Value->Shared->Prop
noncomputable def frs(l:List Env):List Addr:=l.filterMap (·.frame)
noncomputable abbrev Cx.fs(X:Cx):List Addr:=frs X.outer
def Vis(sc:Scope)(x:Str):Prop:=sc.names.lookup x=some .local\/sc.names.lookup x=some .cell\/sc.names.lookup x=some .free
def Loc(sc:Scope)(x:Str):Prop:=sc.names.lookup x=some .local\/sc.names.lookup x=some .cell
def D2(env:Env)(h:Heap)(m:Str->Option Value)(x:Str)(u:Value):Prop:=
 (env.kindOf x=some .local/\m x=some u)\/((env.kindOf x=some .cell\/env.kindOf x=some .free)/\∃c,env.cells.lookup x=some c/\h.IsCell c (some u))
structure Cx.Ok (X:Cx):Prop where
 mod:Mod X.K X.mg X.base
 kind:X.env.scope.kind=.function
 glob:X.env.globals=mainGlobals
 blt:X.env.builtins=builtinsNs
 above:X.s₀.heap.objs.size<=X.env.locals
 inj:∀x y c,X.env.cells.lookup x=some c->X.env.cells.lookup y=some c->x=y
 has:∀x,(X.env.kindOf x=some .cell\/X.env.kindOf x=some .free)->∃c,X.env.cells.lookup x=some c
 cab:∀x c,X.fn x=true->X.env.cells.lookup x=some c->X.s₀.heap.objs.size<=c
 hd:X.calm=true->X.A.handled=none
 frames:X.A.frames=some X.stack
 stk:X.stack=X.outer\/(X.stack=X.env::X.outer/\X.env.frame=some X.env.locals)
 exf:∀b∈X.ex,b≠X.env.locals/\∀x c,X.env.cells.lookup x=some c->c≠b
 bs:∀b o,X.base.get? b=some o->X.s₀.heap.get? b=some o/\X.H₀ b=none
 bsz:X.base.objs.size<=X.s₀.heap.objs.size
 noex:∀b o,X.base.get? b=some o->b∉X.ex
 exfs:∀b∈X.ex,b∉X.fs
 funs:X.s₀.heap.FunFrames X.base X.outer
 frf:∀b∈X.fs,X.H₀ b=none
structure Inv (X:Cx) (pins:List (Addr×Obj)) (σ:List (Option V)) (H:Hp) (s:Shared):Prop where
 ok:X.Ok
 os:s.os=X.s₀.os
 bare:AllBare s.gens
 base:Un X.fs X.ex X.H₀ H X.s₀.heap s.heap
 loc:∃m,s.heap.Ns X.env.locals m/\∀(i:Nat) (x:Str) (v:V),X.N[i]? = some x->σ[i]? = some (some v)->Vis X.env.scope x->∃u,RelV v u/\D2 X.env s.heap m x u
 cell:∀x c,X.env.cells.lookup x=some c->∃v,s.heap.IsCell c v
 free:H X.env.locals=none
 freeC:∀x c,X.env.cells.lookup x=some c->H c=none
 pin:∀p∈X.pn++pins,s.heap.get? p.1=some p.2/\H p.1=none/\p.1≠X.env.locals/\p.1∉X.fs/\∀v,p.2.data≠.cell v
 hok:HOk X.prog X.w H s.heap
 len:σ.length=X.N.length
section
variable{X:Cx}{pins:List (Addr×Obj)}{σ:List (Option V)}{H H':Hp}{s:Shared}{h':Heap}
theorem Cx.Ok.nofr(ok:X.Ok){b:Addr}{o:Obj}(e:X.base.get? b=some o):b∉X.fs:=λhb=>by
 have:=(ok.funs.mem hb).1;rw[e]at this;cases this
theorem Inv.bs(I:Inv X pins σ H s):∀b o,X.base.get? b=some o->s.heap.get? b=some o/\H b=none:=λb o e=>
 ⟨I.base.keep b o (I.ok.bs b o e).1 (I.ok.bs b o e).2 (I.ok.nofr e) (I.ok.noex b o e),I.base.free b o (I.ok.bs b o e).1 (I.ok.bs b o e).2 (I.ok.noex b o e)⟩
theorem Inv.bk(I:Inv X pins σ H s):∀b o,X.base.get? b=some o->s.heap.get? b=some o:=λb o e=>(I.bs b o e).1
theorem Inv.mod(I:Inv X pins σ H s):Mod X.K X.mg X.base:=I.ok.mod
theorem Inv.kIn(I:Inv X pins σ H s):X.K.In s.heap:=I.ok.mod.kin.keeps I.bk
theorem Inv.nolimit(I:Inv X pins σ H s):s.heap.NoLimit:=I.ok.mod.nolimit.keeps I.bk
theorem Inv.lt(I:Inv X pins σ H s):X.env.locals<s.heap.objs.size:=let⟨_,hn,_⟩:=I.loc;hn.lt
theorem Inv.sz(I:Inv X pins σ H s):X.s₀.heap.objs.size<=s.heap.objs.size:=FB I.ok.above (Gy I.lt)
theorem Inv.nofs(I:Inv X pins σ H s){a:Addr}(h:s.heap.objs.size<=a):a∉X.fs:=λhb=>by
 obtain⟨_,o,ho,_⟩:=I.ok.funs.mem hb;exact absurd (Fb (EV ho) (FB I.sz h)) (FM _)
theorem Inv.cne(I:Inv X pins σ H s):∀x c,X.env.cells.lookup x=some c->c≠X.env.locals:=λx c e z=>by
 obtain⟨v,o,ho,hd⟩:=I.cell x c e;obtain⟨m,⟨o',es,ep,ho',hd',_⟩,_⟩:=I.loc;rw[z,ho']at ho;cases ho;rw[hd']at hd;cases hd
theorem Inv.funs(I:Inv X pins σ H s):s.heap.FunFrames X.base X.outer:=by
 have all:∀(l:List Env),(∀b∈frs l,b∈X.fs)->X.s₀.heap.FunFrames X.base l->s.heap.FunFrames X.base l:=by
  intro l
  induction l with
  | nil=>intro _ _;trivial
  | cons env r ih=>
   intro hs hl;obtain⟨hk,⟨L,o,hf,hn,ho,hd⟩,hr⟩:=hl;have hL:L∈X.fs:=hs L (by unfold frs;rw[Iy,hf];exact Fn);obtain⟨sl,e⟩:=I.base.slot L o ho (I.ok.frf L hL) hL λz=>I.ok.exfs L z hL
   exact⟨hk,⟨L,_,hf,hn,e,hd⟩,ih (λb hb=>hs b (by unfold frs;rw[Iy,hf];exact E4 _ hb)) hr⟩
 exact all X.outer (λ_ hb=>hb) I.ok.funs
theorem Inv.stack(I:Inv X pins σ H s):s.heap.FunFrames X.base X.stack:=by
 rcases I.ok.stk with e|⟨e,hf⟩
 ·rw[e];exact I.funs
 ·rw[e]
  obtain⟨m,hn,_⟩:=I.loc;refine .cons (by rw[I.ok.kind];decide) hf hn ?_ I.funs;exact Heap.get?_none_of_le (FB I.ok.bsz I.ok.above)
theorem Inv.stkSub(I:Inv X pins σ H s):∀b∈frs X.stack,b∈X.env.locals::X.fs:=λb hb=>by
 rcases I.ok.stk with e|⟨e,hf⟩
 ·rw[e]at hb;exact E4 _ hb
 ·rw[e]at hb
  unfold frs at hb;rw[Iy,hf]at hb;exact hb
theorem Inv.stkFree(I:Inv X pins σ H s):∀b∈frs X.stack,H b=none:=λb hb=>by
 rcases EO.mp (I.stkSub b hb)with e|hb
 ·rw[e];exact I.free
 ·obtain⟨_,o,ho,_⟩:=I.ok.funs.mem hb
  exact I.base.free b o ho (I.ok.frf b hb) λz=>I.ok.exfs b z hb
theorem Inv.step{g':Array GenState}{t':Nat}{d':Drawn}{ch:List Addr}(I:Inv X pins σ H s)
  (hch:∀b∈ch,(b∈X.ex\/X.s₀.heap.objs.size<=b)/\b≠X.env.locals/\(∀x c,X.env.cells.lookup x=some c->c≠b)/\∀p∈X.pn++pins,p.1≠b)
  (keep:∀b o,b≠X.env.locals->b∉X.fs->b∉ch->s.heap.get? b=some o->H b=none->h'.get? b=some o)
  (slot:∀b o,b≠X.env.locals->b∈X.fs->b∉ch->s.heap.get? b=some o->H b=none->∃sl,h'.get? b=some { o with slots:=sl }) (free:∀b o,b∉ch->s.heap.get? b=some o->H b=none->H' b=none)
  (there:∀b o,b∉ch->s.heap.get? b=some o->∃o',h'.get? b=some o')
  (tups:∀b xs,H b=some (.tup xs)->H' b=some (.tup xs)) (frzs:∀b o u,H b=some (.frz o u)->H' b=some (.frz o u)) (tbls:∀b ps,H b=some (.tbl ps)->∃more,H' b=some (.tbl (ps++more)))
  (ns:∀m,s.heap.Ns X.env.locals m->h'.Ns X.env.locals m) (hok:HOk X.prog X.w H' h') (hg:AllBare g') :
  Inv X pins σ H' { s with heap:=h',gens:=g',drawn:=d',toks:=t' }:=by
 have neL:∀b o,X.s₀.heap.get? b=some o->b≠X.env.locals:=λb o e=>Fc (Fb (EV e) I.ok.above)
 have neC:∀b o,X.s₀.heap.get? b=some o->b∉X.ex->b∉ch:=λb o e hx hb=>by
  rcases(hch b hb).1 with z|z
  ·exact hx z
  ·exact absurd (Fb (EV e) z) (FM _)
 have cellK:∀x c,X.env.cells.lookup x=some c->∀v,s.heap.IsCell c v->h'.IsCell c v:=λx c e v ⟨o,ho,hd⟩=>by
  have nch:c∉ch:=λz=>(hch c z).2.2.1 x c e rfl
  by_cases hc:c∈X.fs
  ·obtain⟨sl,q⟩:=slot c o (I.cne x c e) hc nch ho (I.freeC x c e)
   exact⟨_,q,hd⟩
  ·exact⟨o,keep c o (I.cne x c e) hc nch ho (I.freeC x c e),hd⟩
 refine⟨I.ok,I.os,hg,⟨λb o e n hb hx=>?_,λb o e n hb hx=>?_,λb o e n hx=>?_,λb o e hx=>?_,λb xs e=>tups b xs (I.base.tups b xs e),λb o xs e=>frzs b o xs (I.base.frzs b o xs e),λb ps e=>?_⟩,?_,λx c e=>?_,?_,λx c e=>?_,λp hp=>?_,hok,I.len⟩
 ·exact keep b o (neL b o e) hb (neC b o e hx) (I.base.keep b o e n hb hx) (I.base.free b o e n hx)
 ·obtain⟨sl,e1⟩:=I.base.slot b o e n hb hx
  obtain⟨sl',e2⟩:=slot b _ (neL b o e) hb (neC b o e hx) e1 (I.base.free b o e n hx);exact⟨sl',e2⟩
 ·obtain⟨o',e1⟩:=I.base.there b o e hx
  exact free b o' (neC b o e hx) e1 (I.base.free b o e n hx)
 ·obtain⟨o',e1⟩:=I.base.there b o e hx
  exact there b o' (neC b o e hx) e1
 ·obtain⟨m1,e1⟩:=I.base.tbls b ps e
  obtain⟨m2,e2⟩:=tbls b _ e1;exact⟨m1++m2,by rw[e2,Array.append_assoc]⟩
 ·obtain⟨m,hn,hl⟩:=I.loc
  refine⟨m,ns m hn,λi x v e1 e2 e3=>?_⟩;obtain⟨u,r,l⟩:=hl i x v e1 e2 e3;refine⟨u,r,?_⟩;rcases l with l|⟨k,c,e,z⟩
  ·exact .inl l
  ·exact .inr ⟨k,c,e,cellK x c e _ z⟩
 ·obtain⟨v,z⟩:=I.cell x c e
  exact⟨v,cellK x c e v z⟩
 ·obtain⟨m,⟨o,_,_,ho,_⟩,_⟩:=I.loc
  exact free _ o (λz=>(hch _ z).2.1 rfl) ho I.free
 ·obtain⟨v,o,ho,hd⟩:=I.cell x c e
  exact free c o (λz=>(hch c z).2.2.1 x c e rfl) ho (I.freeC x c e)
 ·obtain⟨e,n,ne,nf,d⟩:=I.pin p hp
  have nch:p.1∉ch:=λz=>(hch p.1 z).2.2.2 p hp rfl
  exact⟨keep p.1 p.2 ne nf nch e n,free p.1 p.2 nch e n,ne,nf,d⟩
theorem Inv.un{t':Nat}(I:Inv X pins σ H s)(u:Un X.fs [] H H' s.heap h')(hok:HOk X.prog X.w H' h'):Inv X pins σ H' { s with heap:=h',toks:=t' }:=by
 obtain⟨m,⟨o,es,ep,ho,r⟩,_⟩:=id I.loc;obtain⟨sl,hL⟩:=u.any ho I.free (by simp);exact I.step (g':=s.gens) (d':=s.drawn) (ch:=[]) (λ_ z=>nomatch z) (λb o _ hb _ e n=>u.keep b o e n hb (by simp)) (λb o _ hb _ e n=>u.slot b o e n hb (by simp)) (λb o _ e n=>u.free b o e n (by simp)) (λb o _ e=>u.there b o e (by simp)) u.tups u.frzs u.tbls (λm' hm=>by
  obtain⟨o',es',ep',ho',r'⟩:=hm;rw[ho]at ho';cases ho';exact⟨_,es',ep',hL,r'⟩) hok I.bare
theorem Inv.call{g':Array GenState}{t':Nat}{d':Drawn}{ch:List Addr}(I:Inv X pins σ H s)(u:Un (frs X.stack) ch H H' s.heap h')(hok:HOk X.prog X.w H' h')(hg:AllBare g')
  (hch:∀b∈ch,(b∈X.ex\/X.s₀.heap.objs.size<=b)/\b≠X.env.locals/\(∀x c,X.env.cells.lookup x=some c->c≠b)/\∀p∈X.pn++pins,p.1≠b) :
  Inv X pins σ H' { s with heap:=h',gens:=g',drawn:=d',toks:=t' }:=by
 obtain⟨m,⟨o,es,ep,ho,r⟩,_⟩:=id I.loc;obtain⟨sl,hL⟩:=u.any ho I.free λz=>(hch _ z).2.1 rfl
 exact I.step (ch:=ch) hch (λb o hL hb hc e n=>u.keep b o e n (λz=>(EO.mp (I.stkSub b z)).elim hL hb) hc) (λb o _ _ hc e n=>u.any e n hc) (λb o hc e n=>u.free b o e n hc) (λb o hc e=>u.there b o e hc) u.tups u.frzs u.tbls (λm' hm=>by
  obtain⟨o',es',ep',ho',r'⟩:=hm;rw[ho]at ho';cases ho';exact⟨_,es',ep',hL,r'⟩) hok hg
theorem Inv.turned{t':Nat}{it:Addr}(I:Inv X pins σ H s)(k:∀b o,b≠it->s.heap.get? b=some o->h'.get? b=some o)(hn:H it=none)(hL:it≠X.env.locals)
  (h1:it∈X.ex\/X.s₀.heap.objs.size<=it) (h2:∀x c,X.env.cells.lookup x=some c->c≠it) (h3:∀p∈X.pn++pins,p.1≠it):Inv X pins σ H { s with heap:=h',toks:=t' }:=by
 have nit:∀b u,H b=some u->b≠it:=λb u e z=>by rw[z,hn]at e;cases e
 refine I.step (g':=s.gens) (d':=s.drawn) (ch:=[it]) (λb hb=>?_) (λb o _ _ hc e _=>k b o (λz=>hc (by simp[z])) e) (λb o _ _ hc e _=>⟨o.slots,k b o (λz=>hc (by simp[z])) e⟩) (λ_ _ _ _ n=>n)
  (λb o hc e=>⟨o,k b o (λz=>hc (by simp[z])) e⟩) (λ_ _ e=>e) (λ_ _ _ e=>e) (λb ps e=>⟨#[],by rw[e];simp⟩) (λm hm=>?_) (λb u e=>?_) I.bare
 ·have e:b=it:=by simpa using hb
  subst e;exact⟨h1,hL,h2,h3⟩
 ·obtain⟨o,es,ep,ho,r⟩:=hm
  exact⟨o,es,ep,k _ o (E7 hL) ho,r⟩
 ·refine(I.hok b u e).stay (λc v hc q=>k c v ?_ q) (λ_ q=>q) λ_ _ q=>q
  rcases hc with z|z
  ·rw[z];exact nit b u e
  ·exact nit c _ z
theorem Inv.tok(I:Inv X pins σ H s)(t:Nat):Inv X pins σ H { s with toks:=t }:=I.un (h':=s.heap) (t':=t) Un.refl I.hok
theorem Inv.kept{t':Nat}(I:Inv X pins σ H s)(k:∀b u,s.heap.get? b=some u->h'.get? b=some u):Inv X pins σ H { s with heap:=h',toks:=t' }:=I.un (Un.kept k) (I.hok.kept k)
theorem Inv.laid{a:Addr}{o:HO}{t':Nat}(I:Inv X pins σ H s)(k:∀b u,s.heap.get? b=some u->h'.get? b=some u)(hp:s.heap.objs.size<=a)(new:ObjOk X.prog X.w (upd H a o) h' a o):
  Inv X pins σ (upd H a o) { s with heap:=h',toks:=t' }:=I.un (Un.laid k hp (I.hok.fresh hp)) (I.hok.laid k hp new)
theorem Inv.write{x e:Addr}{o:HO}{t':Nat}(I:Inv X pins σ H s)(mu:Mut (H x))(he:e=x\/H e=some (.own x))(k:∀b u,b≠e->s.heap.get? b=some u->h'.get? b=some u)(heo:∃u,h'.get? e=some u)
  (new:ObjOk X.prog X.w (upd H x o) h' x o):Inv X pins σ (upd H x o) { s with heap:=h',toks:=t' }:=I.un (Un.write mu he k heo) (I.hok.write mu he k heo new)
theorem Inv.pins_of{pins':List (Addr×Obj)}(I:Inv X pins σ H s)(h:∀p∈pins',s.heap.get? p.1=some p.2/\H p.1=none/\p.1≠X.env.locals/\p.1∉X.fs/\∀v,p.2.data≠.cell v):Inv X pins' σ H s:=
 ⟨I.ok,I.os,I.bare,I.base,I.loc,I.cell,I.free,I.freeC,λp hp=>(Fq.mp hp).elim (λz=>I.pin p (Hb _ z)) (h p),I.hok,I.len⟩
theorem me{N:List Str}(hN:N.Nodup){i j:Nat}{x:Str}(a:N[i]? = some x)(b:N[j]? = some x):i=j:=by
 obtain⟨h1,e1⟩:=EM.mp a;obtain⟨h2,e2⟩:=EM.mp b;exact(List.getElem_inj hN).mp (e1.trans e2.symm)
theorem oz{M:Model}{A:Around}{E:Value->Shared->Prop}{i:Nat}{x:Str}{v:V}{u:Value}{Q:Unit->Shared->Prop}(I:Inv X pins σ H s)(hN:X.N.Nodup)(hi:X.N[i]? = some x)(hx:Loc X.env.scope x)(r:RelV v u)
  (h:∀s',Inv X pins (σ.set i (some v)) H s'->(∃a,Ki a s.heap s'.heap/\(a=X.env.locals\/X.env.cells.lookup x=some a))->Q () s') (hf:X.fn x=true\/X.env.scope.names.lookup x=some .local:=by first|exact .inl rfl|exact .inr rfl|assumption):wpAny M A (storeName X.env x u) Q E s:=by
 obtain⟨m,hn,hl⟩:=id I.loc;have hcls:(X.env.scope.kind == .class || (X.env.scope.kind == .module && X.env.locals != X.env.globals))=false:=by rw[I.ok.kind];rfl
 have hiσ:i<σ.length:=by rw[I.len];exact(EM.mp hi).1
 have cne:=I.cne;have tracked:∀{a:Addr}{h':Heap},(∃o,s.heap.get? a=some o/\H a=none)->Ki a s.heap h'->HOk X.prog X.w H h':=λ{a h'} ha hs b ob e=>by
  obtain⟨_,_,hfree⟩:=ha;refine(I.hok b ob e).stay (λc w' hc q=>(hs.2 c ?_).trans q) (λ_ q=>q) λ_ _ q=>q
  rintro rfl;rcases hc with rfl|hc
  ·rw[hfree]at e;cases e
  ·rw[hfree]at hc;cases hc
 rcases hx with hk|hk
 ·refine wpAny_storeName_local hk hn (λh' hn' hs=>?_) hcls
  obtain⟨oL,_,_,hoL,_⟩:=id hn;refine h _ ⟨I.ok,I.os,I.bare,⟨λb o e n hb hx=>?_,λb o e n hb hx=>?_,I.base.free,λb o e hx=>?_,I.base.tups,I.base.frzs,I.base.tbls⟩,⟨_,hn',λj y v' e1 e2 e3=>?_⟩,λy c e=>?_,I.free,I.freeC,λp hp=>?_,tracked ⟨oL,hoL,I.free⟩ hs,by simpa using I.len⟩ ⟨_,hs,.inl rfl⟩
  ·exact(hs.2 b (Fc (Fb (EV e) I.ok.above))).trans (I.base.keep b o e n hb hx)
  ·obtain⟨sl,e1⟩:=I.base.slot b o e n hb hx
   exact⟨sl,(hs.2 b (Fc (Fb (EV e) I.ok.above))).trans e1⟩
  ·obtain⟨o',e1⟩:=I.base.there b o e hx
   exact⟨o',(hs.2 b (Fc (Fb (EV e) I.ok.above))).trans e1⟩
  ·by_cases hj:j=i
   ·subst hj
    rw[hi]at e1;cases e1;rw[JG hiσ]at e2;cases e2;exact⟨u,r,.inl ⟨hk,by simp⟩⟩
   ·rw[JT (E7 hj)]at e2
    obtain⟨u',r',q⟩:=hl j y v' e1 e2 e3;refine⟨u',r',?_⟩;rcases q with⟨k,e⟩|⟨k,c,e,z⟩
    ·refine .inl ⟨k,?_⟩
     have:y≠x:=λe=>hj (me hN e1 (e▸hi))
     simp[this,e]
    ·exact .inr ⟨k,c,e,z.sameBut hs (cne y c e)⟩
  ·obtain⟨w',z⟩:=I.cell y c e
   exact⟨w',z.sameBut hs (cne y c e)⟩
  ·obtain⟨e,n,ne,nf,d⟩:=I.pin p hp
   exact⟨(hs.2 p.1 ne).trans e,n,ne,nf,d⟩
 ·have hfn:X.fn x=true:=by
   rcases hf with z|z
   ·exact z
   ·rw[z]at hk;cases hk
  obtain⟨c,hc⟩:=I.ok.has x (.inl hk);obtain⟨w',z⟩:=I.cell x c hc;refine wpAny_storeName_cell I.ok.kind hk hc z (λh' hc' hs=>?_);obtain⟨oc,hoc,hocd⟩:=id z;refine h { s with heap:=h' } ⟨I.ok,I.os,I.bare,⟨λb o e n hb hx=>?_,λb o e n hb hx=>?_,I.base.free,λb o e hx=>?_,I.base.tups,I.base.frzs,I.base.tbls⟩,⟨m,hn.sameBut hs (E7 (cne x c hc)),λj y v' e1 e2 e3=>?_⟩,λy c' e=>?_,I.free,I.freeC,λp hp=>?_,tracked ⟨oc,hoc,I.freeC x c hc⟩ hs,by simpa using I.len⟩ ⟨c,hs,.inr hc⟩
  ·exact(hs.2 b (Fc (Fb (EV e) (I.ok.cab x c hfn hc)))).trans (I.base.keep b o e n hb hx)
  ·obtain⟨sl,e1⟩:=I.base.slot b o e n hb hx
   exact⟨sl,(hs.2 b (Fc (Fb (EV e) (I.ok.cab x c hfn hc)))).trans e1⟩
  ·obtain⟨o',e1⟩:=I.base.there b o e hx
   exact⟨o',(hs.2 b (Fc (Fb (EV e) (I.ok.cab x c hfn hc)))).trans e1⟩
  ·by_cases hj:j=i
   ·subst hj
    rw[hi]at e1;cases e1;rw[JG hiσ]at e2;cases e2;exact⟨u,r,.inr ⟨.inl hk,c,hc,hc'⟩⟩
   ·rw[JT (E7 hj)]at e2
    obtain⟨u',r',q⟩:=hl j y v' e1 e2 e3;refine⟨u',r',?_⟩;rcases q with q|⟨k,c',e,z'⟩
    ·exact .inl q
    ·refine .inr ⟨k,c',e,z'.sameBut hs ?_⟩
     rintro rfl;exact hj (me hN e1 (I.ok.inj _ _ _ e hc▸hi))
  ·by_cases hcc:c'=c
   ·subst hcc;exact⟨_,hc'⟩
   ·obtain⟨w2,z2⟩:=I.cell y c' e
    exact⟨w2,z2.sameBut hs hcc⟩
  ·obtain⟨e,n,ne,nf,d⟩:=I.pin p hp
   refine⟨(hs.2 p.1 ?_).trans e,n,ne,nf,d⟩;intro q;rw[q,hoc]at e;have q':oc=p.2:=EY e;exact d w' (by rw[<-q'];exact hocd)
theorem eD{M:Model}{A:Around}{E:Value->Shared->Prop}{i:Nat}{x:Str}{v:V}{u:Value}{Q:Unit->Shared->Prop}(I:Inv X pins σ H s)(hN:X.N.Nodup)(hi:X.N[i]? = some x)(hx:Loc X.env.scope x)(r:RelV v u)
  (h:∀s',Inv X pins (σ.set i (some v)) H s'->Q () s') (hf:X.fn x=true\/X.env.scope.names.lookup x=some .local:=by first|exact .inl rfl|exact .inr rfl|assumption):wpAny M A (storeName X.env x u) Q E s:=
 oz I hN hi hx r (λs' I' _=>h s' I') hf
theorem Inv.call'{s':Shared}{ch:List Addr}(I:Inv X pins σ H s)(ho:s'.os=s.os)(u:Un (frs X.stack) ch H H' s.heap s'.heap)(hok:HOk X.prog X.w H' s'.heap)(hg:AllBare s'.gens)
  (hch:∀b∈ch,(b∈X.ex\/X.s₀.heap.objs.size<=b)/\b≠X.env.locals/\(∀x c,X.env.cells.lookup x=some c->c≠b)/\∀p∈X.pn++pins,p.1≠b):Inv X pins σ H' s':=by
 obtain⟨h',g',d',t',o'⟩:=s';have e:o'=s.os:=ho;subst e;exact I.call (g':=g') (t':=t') (d':=d') u hok hg hch
end
noncomputable abbrev XK:=Value->Option Addr->Hp->Prop
noncomputable abbrev St:=List (Option V)
noncomputable abbrev VK:=V->Hp->Prop
noncomputable abbrev TE:=St->Hp->VK->Prop
noncomputable abbrev TT:=St->Hp->(Bool->Hp->Prop)->Prop
noncomputable abbrev TA:=St->Hp->(List V->Hp->Prop)->Prop
structure Ends where
 nx:St->Hp->Prop
 rt:VK
 bk:St->Hp->Prop:=λ_ _=>False
 ct:St->Hp->Prop:=λ_ _=>False
noncomputable abbrev TS:=Ends->St->Hp->Prop
def EP(X:Cx)(pins:List (Addr×Obj))(σ:St)(Q:VK)(u:Value)(s':Shared):Prop:=∃v H',Inv X pins σ H' s'/\RelV v u/\Q v H'
def TP(X:Cx)(pins:List (Addr×Obj))(σ:St)(Q:Bool->Hp->Prop)(b:Bool)(s':Shared):Prop:=∃H',Inv X pins σ H' s'/\Q b H'
def AP(X:Cx)(pins:List (Addr×Obj))(σ:St)(Q:List V->Hp->Prop)(us:List Value)(s':Shared):Prop:=∃vs H',Inv X pins σ H' s'/\Vals vs us/\Q vs H'
def SP(X:Cx)(pins:List (Addr×Obj))(D:Ends)(f:Flow)(s':Shared):Prop:=
 match f with
 | .next=>∃σ' H',Inv X pins σ' H' s'/\D.nx σ' H'
 | .brk=>∃σ' H',Inv X pins σ' H' s'/\D.bk σ' H'
 | .cont=>∃σ' H',Inv X pins σ' H' s'/\D.ct σ' H'
 | .ret u=>∃v σ' H',Inv X pins σ' H' s'/\RelV v u/\D.rt v H'
def PE(X:Cx)(e:Expr)(t:TE):Prop:=
 ∀(pins:List (Addr×Obj)) (s:Shared) (σ:St) (H:Hp) (Q:VK),Inv X pins σ H s->t σ H Q->wpAny (model X.prog X.w) X.A (eval e X.env) (EP X pins σ Q) X.xe s
def PT(X:Cx)(e:Expr)(t:TT):Prop:=
 ∀(pins:List (Addr×Obj)) (s:Shared) (σ:St) (H:Hp) (Q:Bool->Hp->Prop),Inv X pins σ H s->t σ H Q->wpAny (model X.prog X.w) X.A (isTrue e X.env (eval e X.env)) (TP X pins σ Q) X.xe s
def PW(X:Cx)(e:Expr)(t:TT):Prop:=
 ∀(whole:Sem Value) (pins:List (Addr×Obj)) (s:Shared) (σ:St) (H:Hp) (Q:Bool->Hp->Prop),Inv X pins σ H s->t σ H Q->wpAny (model X.prog X.w) X.A (isTrue e X.env whole) (TP X pins σ Q) X.xe s
theorem PW.pt{X:Cx}{e:Expr}{t:TT}(h:PW X e t):PT X e t:=h _
def PA(X:Cx)(es:List Expr)(t:TA):Prop:=
 ∀(pos:Pos) (pins:List (Addr×Obj)) (s:Shared) (σ:St) (H:Hp) (Q:List V->Hp->Prop),Inv X pins σ H s->t σ H Q->wpAny (model X.prog X.w) X.A (spliced (backTo pos (On es X.env))) (AP X pins σ Q) X.xe s
def PS(X:Cx)(st:Stmt)(t:TS):Prop:=
 ∀(pins:List (Addr×Obj)) (s:Shared) (σ:St) (H:Hp) (D:Ends),Inv X pins σ H s->t D σ H->wpAny (model X.prog X.w) X.A (exec st X.env) (SP X pins D) X.xe s
def PSs(X:Cx)(st:List Stmt)(t:TS):Prop:=
 ∀(pins:List (Addr×Obj)) (s:Shared) (σ:St) (H:Hp) (D:Ends),Inv X pins σ H s->t D σ H->wpAny (model X.prog X.w) X.A (execs st X.env) (SP X pins D) X.xe s
theorem thn{α:Type}{t:Sem α}{Q Q':α->Shared->Prop}{M:Model}{A:Around}{E:Value->Shared->Prop}{s:Shared}(h:wpAny M A t Q E s)(hQ:∀a s,Q a s->Q' a s):wpAny M A t Q' E s:=Om h hQ λ_ _ x=>x
section
variable{X:Cx}
def BI(i:Nat):TE:=λσ H Q=>∃v,σ[i]? = some (some v)/\Q v H
def tC(v:V):TE:=λ_ H Q=>Q v H
theorem yT {i:Nat}{x:Str}{pos:Pos}(hN:X.N[i]? = some x) (hv:Vis X.env.scope x) (hd:(x == ("__debug__" : Str))=false:=by decide) (hcd:(x == ("__classdict__" : Str))=false:=by decide):PE X (.Name x pos) (BI i):=by
 intro pins s σ H Q I h;obtain⟨v,e,h⟩:=h;obtain⟨m,hn,hl⟩:=I.loc;obtain⟨u,r,l⟩:=hl i x v hN e hv;have fin:EP X pins σ Q u s:=⟨v,H,I,r,h⟩;rcases l with⟨hk,hm⟩|⟨hk,c,hc,hcell⟩
 ·exact wpAny_Name (wpAny_loadName_local I.ok.kind hk hn hm fin) hd
 ·rcases hk with hk|hk
  ·exact wpAny_Name (wpAny_loadName_cell I.ok.kind hk hc hcell fin) hd
  ·exact wpAny_Name (wpAny_loadName_free I.ok.kind hk hc hcell fin hcd) hd
theorem uK{i j pos}:PE X (.Constant (.int i) j pos) (tC (.int i)):=λ_ _ _ H _ I h=>wpAny_Constant_int ⟨.int i,H,I.tok _,⟨_,rfl⟩,h⟩
theorem BJ{b j pos}:PE X (.Constant (.bool b) j pos) (tC (.bl b)):=λ_ _ _ H _ I h=>Constant_bool ⟨.bl b,H,I,rfl,h⟩
theorem yU{j pos}:PE X (.Constant .none j pos) (tC .non):=λ_ _ _ H _ I h=>Constant_none ⟨.non,H,I,rfl,h⟩
theorem yV{x j pos}:PE X (.Constant (.str x) j pos) (tC (.str x)):=λ_ _ _ H _ I h=>Calls.Constant_str ⟨.str x,H,I.tok _,⟨_,rfl⟩,h⟩
def Gl(X:Cx)(x:Str):Prop:=X.env.kindOf x=some .globalImplicit
theorem kY{E:Value->Shared->Prop}{pins:List (Addr×Obj)}{s:Shared}{σ:St}{H:Hp}{x:Str}{u:Value}{pos:Pos}{Q:Value->Shared->Prop}(I:Inv X pins σ H s)(hg:Gl X x)(hm:X.mg x=some u)(h:Q u s)
  (hd:(x == ("__debug__" : Str))=false:=by decide):wpAny (model X.prog X.w) X.A (eval (.Name x pos) X.env) Q E s:=
 IP I.ok.kind hg (Calls.loadGlobal_global (by rw[I.ok.glob];exact I.mod.glob.keeps I.bk) hm h) hd
theorem eP{E:Value->Shared->Prop}{pins:List (Addr×Obj)}{s:Shared}{σ:St}{H:Hp}{x:Str}{u:Value}{pos:Pos}{Q:Value->Shared->Prop}(I:Inv X pins σ H s)(hg:Gl X x)(hm:X.mg x=none)(hv:bootBuiltins x=some u)(h:Q u s)
  (hn:x≠"__name__":=by decide) (hd:(x == ("__debug__" : Str))=false:=by decide):wpAny (model X.prog X.w) X.A (eval (.Name x pos) X.env) Q E s:=by
 obtain⟨mb,h1,h2⟩:=I.mod.blt;exact IP I.ok.kind hg (Calls.loadGlobal_builtin (by rw[I.ok.glob];exact I.mod.glob.keeps I.bk) hm (by rw[I.ok.blt];exact h1.keeps I.bk) ((h2 x hn).trans hv) h) hd
theorem vK {x:Str}{v:V}{u:Value}{pos:Pos}(hg:Gl X x) (hm:X.mg x=some u) (r:RelV v u) (hd:(x == ("__debug__" : Str))=false:=by decide):PE X (.Name x pos) (tC v):=
 λ_ _ _ H _ I h=>kY I hg hm ⟨v,H,I,r,h⟩ hd
theorem vL {x:Str}{v:V}{u:Value}{pos:Pos}(hg:Gl X x) (hm:X.mg x=none) (hv:bootBuiltins x=some u) (r:RelV v u) (hn:x≠"__name__":=by decide) (hd:(x == ("__debug__" : Str))=false:=by decide):PE X (.Name x pos) (tC v):=
 λ_ _ _ H _ I h=>eP I hg hm hv ⟨v,H,I,r,h⟩ hn hd
variable{a b:Expr}{ta tb:TE}{pos:Pos}
def tB(t:TE):TT:=λσ H Q=>t σ H λx H1=>∃c,x=.bl c/\Q c H1
theorem yW{e:Expr}{t:TE}(h:PE X e t)(he:∀whole,isTrue e X.env whole=(do let v <-whole;OH e.pos;OI [v] (truthy v)):=by intro _;rfl):PT X e (tB t):=by
 intro pins s σ H Q I hw;refine isTrue_plain (thn (h pins s σ H _ I hw) λv s1 ⟨x,H1,I1,r1,q1⟩=>?_) (he _);obtain⟨d,rfl,q⟩:=q1;cases r1;exact Os ⟨H1,I1,q⟩
variable{tA tB':TT}{dm:List Expr}
def BK(t u:TT):TT:=λσ H Q=>t σ H λc H1=>if c=true then u σ H1 Q else Q false H1
def tOr(t u:TT):TT:=λσ H Q=>t σ H λc H1=>if c=true then Q true H1 else u σ H1 Q
def BL(t:TT):TT:=λσ H Q=>t σ H λc H1=>Q (!c) H1
theorem vM(ha:PT X a tA):PW X (.BoolOp .And [a] pos) tA:=by
 intro wh pins s σ H Q I h;refine isTrue_and (thn (ha pins s σ H Q I h) λc s1 e=>?_);cases c with
 | true=>exact isTrue_and_nil e
 | false=>exact e
theorem yX(ha:PT X a tA):PW X (.BoolOp .Or [a] pos) tA:=by
 intro wh pins s σ H Q I h;refine isTrue_or (thn (ha pins s σ H Q I h) λc s1 e=>?_);cases c with
 | false=>exact isTrue_or_nil e
 | true=>exact e
theorem yY(ha:PT X a tA)(hb:PW X (.BoolOp .And (b::dm) pos) tB'):PW X (.BoolOp .And (a::b::dm) pos) (BK tA tB'):=by
 intro wh pins s σ H Q I h;refine isTrue_and (thn (ha pins s σ H _ I h) λc s1 ⟨H1,I1,q1⟩=>?_);cases c with
 | true=>exact hb wh pins s1 σ H1 Q I1 q1
 | false=>exact⟨H1,I1,q1⟩
theorem BM(ha:PT X a tA)(hb:PW X (.BoolOp .Or (b::dm) pos) tB'):PW X (.BoolOp .Or (a::b::dm) pos) (tOr tA tB'):=by
 intro wh pins s σ H Q I h;refine isTrue_or (thn (ha pins s σ H _ I h) λc s1 ⟨H1,I1,q1⟩=>?_);cases c with
 | true=>exact⟨H1,I1,q1⟩
 | false=>exact hb wh pins s1 σ H1 Q I1 q1
theorem yZ(ha:PT X a tA):PT X (.UnaryOp .Not a pos) (BL tA):=by
 intro pins s σ H Q I h;exact isTrue_not (ha pins s σ H (λc H1=>Q (!c) H1) I h)
def vN(ta tb:TE):TE:=λσ H Q=>ta σ H λx H1=>∃c,x=.bl c/\if c=true then tb σ H1 Q else Q (.bl false) H1
def BN(ta tb:TE):TE:=λσ H Q=>ta σ H λx H1=>∃c,x=.bl c/\if c=true then Q (.bl true) H1 else tb σ H1 Q
theorem y0{op}{t:TE}(h:PE X a t):PE X (.BoolOp op [a] pos) t:=λpins s σ H Q I hw=>BoolOp_one (h pins s σ H Q I hw)
theorem y3(ha:PE X a ta)(hb:PE X (.BoolOp .And (b::dm) pos) tb):PE X (.BoolOp .And (a::b::dm) pos) (vN ta tb):=by
 intro pins s σ H Q I h;refine BoolOp_and (thn (ha pins s σ H _ I h) λv s1 ⟨x,H1,I1,r1,q1⟩=>?_);obtain⟨c,rfl,q1⟩:=q1;cases r1;refine Os ?_;cases c with
 | true=>exact hb pins s1 σ H1 Q I1 q1
 | false=>exact⟨.bl false,H1,I1,rfl,q1⟩
theorem BO(ha:PE X a ta)(hb:PE X (.BoolOp .Or (b::dm) pos) tb):PE X (.BoolOp .Or (a::b::dm) pos) (BN ta tb):=by
 intro pins s σ H Q I h;refine BoolOp_or (thn (ha pins s σ H _ I h) λv s1 ⟨x,H1,I1,r1,q1⟩=>?_);obtain⟨c,rfl,q1⟩:=q1;cases r1;refine Os ?_;cases c with
 | false=>exact hb pins s1 σ H1 Q I1 q1
 | true=>exact⟨.bl true,H1,I1,rfl,q1⟩
def tIf(t:TT)(ta tb:TE):TE:=λσ H Q=>t σ H λc H1=>if c=true then ta σ H1 Q else tb σ H1 Q
theorem sf{c:Expr}(hc:PT X c tA)(ha:PE X a ta)(hb:PE X b tb):PE X (.IfExp c a b pos) (tIf tA ta tb):=by
 intro pins s σ H Q I h;refine wpAny_IfExp (thn (hc pins s σ H _ I h) λd s1 ⟨H1,I1,q1⟩=>?_);cases d with
 | true=>exact ha pins s1 σ H1 Q I1 q1
 | false=>exact hb pins s1 σ H1 Q I1 q1
end
def SqL(K:EG)(H:Hp)(a:Addr)(xs:List V):Prop:=
 Rd H a (.lst xs)\/
  ∃(o:Obj) (its:Array Value) (n:Nat),K.lookup a=some o/\o.cls=.type "list"/\o.dict=none/\o.data=.seq its n/\its.size<=sizeLine/\Vals xs its.toList
def SqT(K:EG)(H:Hp)(a:Addr)(xs:List V):Prop:=
 Rd H a (.tup xs)\/
  ∃(o:Obj) (its:Array Value) (n:Nat),K.lookup a=some o/\o.cls=.type "tuple"/\o.data=.seq its n/\its.size<=sizeLine/\Vals xs its.toList
noncomputable def D4:Value->Option V
 | .none=>some .non
 | .bool b=>some (.bl b)
 | .int i _=>some (.int i)
 | .str x _=>some (.str x)
 | .bytes b _=>some (.byt b)
 | .float b _=>some (.flt b)
 | .ref a=>some (.ref a)
 | .type n=>some (.ty n)
 | _=>none
theorem RelV.abs{x:V}{u:Value}(r:RelV x u):D4 u=some x:=by
 cases x with
 | non=>cases r;rfl
 | bl _=>cases r;rfl
 | int _=>obtain⟨t,rfl⟩:=r;rfl
 | str _=>obtain⟨t,rfl⟩:=r;rfl
 | byt _=>obtain⟨t,rfl⟩:=r;rfl
 | flt _=>obtain⟨t,rfl⟩:=r;rfl
 | ref _=>cases r;rfl
 | ty _=>cases r;rfl
theorem RelV.inj{x y:V}{u:Value}(r:RelV x u)(q:RelV y u):x=y:=EY (r.abs.symm.trans q.abs)
theorem Vals.inj:∀{xs ys:List V}{us:List Value},Vals xs us->Vals ys us->xs=ys
 | _,_,_,.nil,.nil=>rfl
 | _,_,_,.cons r t,.cons r' t'=>by rw[r.inj r',Vals.inj t t']
section
variable{X:Cx}{pins:List (Addr×Obj)}{σ:St}{H:Hp}{s:Shared}{a:Addr}{xs ys:List V}
theorem SqL.of{K:EG}(h:H a=some (.lst xs)):SqL K H a xs:=.inl (.inl h)
theorem SqT.of{K:EG}(h:H a=some (.tup xs)):SqT K H a xs:=.inl (.inl h)
theorem Inv.list(I:Inv X pins σ H s)(h:SqL X.K H a xs):∃its:List Value,Vals xs its/\PlainL s.heap a its.toArray/\xs.length<=sizeLine:=by
 rcases h with h|⟨o,its,n,hk,hc,hd,hs,hz,r⟩
 ·obtain⟨z,its,n,r,e⟩:=h.ok I.hok
  exact⟨its,r,⟨_,n,e,rfl,rfl,rfl⟩,z⟩
 ·refine⟨its.toList,r,⟨o,n,I.kIn a o hk,hc,hd,by simpa using hs⟩,?_⟩
  have e:=r.length;simp only[FF]at e;lia
theorem Inv.tuple(I:Inv X pins σ H s)(h:SqT X.K H a xs):∃its:List Value,Vals xs its/\IsTup s.heap a its.toArray/\xs.length<=sizeLine:=by
 rcases h with h|⟨o,its,n,hk,hc,hs,hz,r⟩
 ·obtain⟨z,its,r,p⟩:=h.ok I.hok
  exact⟨its,r,p,z⟩
 ·refine⟨its.toList,r,⟨o,I.kIn a o hk,hc,n,by simpa using hs⟩,?_⟩
  have e:=r.length;simp only[FF]at e;lia
theorem Inv.list_inj(I:Inv X pins σ H s)(h:SqL X.K H a xs)(h':SqL X.K H a ys):xs=ys:=by
 obtain⟨its,r,⟨o,n,e,_,_,d⟩,_⟩:=I.list h;obtain⟨its',r',⟨o',n',e',_,_,d'⟩,_⟩:=I.list h';rw[e]at e';cases e';rw[d]at d';injection d' with d1 _
 have:its=its':=by simpa using congrArg Mv d1
 subst this;exact r.inj r'
theorem Inv.tuple_inj(I:Inv X pins σ H s)(h:SqT X.K H a xs)(h':SqT X.K H a ys):xs=ys:=by
 obtain⟨its,r,⟨o,e,_,n,d⟩,_⟩:=I.tuple h;obtain⟨its',r',⟨o',e',_,n',d'⟩,_⟩:=I.tuple h';rw[e]at e';cases e';rw[d]at d';injection d' with d1 _
 have:its=its':=by simpa using congrArg Mv d1
 subst this;exact r.inj r'
end
noncomputable abbrev Cx.wish(X:Cx)(E:Value->Shared->Prop):Cx:={ X with xe:=E }
noncomputable abbrev Cx.nox(X:Cx):Cx:=X.wish λ_ _=>False
theorem Cx.Ok.wish{X:Cx}(ok:X.Ok)(E:Value->Shared->Prop):(X.wish E).Ok:=
 ⟨ok.mod,ok.kind,ok.glob,ok.blt,ok.above,ok.inj,ok.has,ok.cab,ok.hd,ok.frames,ok.stk,ok.exf,ok.bs,ok.bsz,ok.noex,ok.exfs,ok.funs,ok.frf⟩
theorem Cx.Ok.unwish{X:Cx}{E:Value->Shared->Prop}(ok:(X.wish E).Ok):X.Ok:=
 ⟨ok.mod,ok.kind,ok.glob,ok.blt,ok.above,ok.inj,ok.has,ok.cab,ok.hd,ok.frames,ok.stk,ok.exf,ok.bs,ok.bsz,ok.noex,ok.exfs,ok.funs,ok.frf⟩
section
variable{X:Cx}{pins:List (Addr×Obj)}{σ:St}{H:Hp}{s:Shared}{E:Value->Shared->Prop}
theorem Inv.wish(I:Inv X pins σ H s)(E:Value->Shared->Prop):Inv (X.wish E) pins σ H s:=⟨I.ok.wish E,I.os,I.bare,I.base,I.loc,I.cell,I.free,I.freeC,I.pin,I.hok,I.len⟩
theorem Inv.unwish(I:Inv (X.wish E) pins σ H s):Inv X pins σ H s:=⟨I.ok.unwish,I.os,I.bare,I.base,I.loc,I.cell,I.free,I.freeC,I.pin,I.hok,I.len⟩
theorem SP.unwish{D:Ends}{f:Flow}{s':Shared}(h:SP (X.wish E) pins D f s'):SP X pins D f s':=by
 cases f with
 | next=>obtain⟨σ',H',I,q⟩:=h;exact⟨σ',H',I.unwish,q⟩
 | brk=>obtain⟨σ',H',I,q⟩:=h;exact⟨σ',H',I.unwish,q⟩
 | cont=>obtain⟨σ',H',I,q⟩:=h;exact⟨σ',H',I.unwish,q⟩
 | ret u=>obtain⟨v,σ',H',I,r,q⟩:=h;exact⟨v,σ',H',I.unwish,r,q⟩
theorem PSs.nox{st:List Stmt}{t:TS}(h:PSs X.nox st t):PSs X st t:=λpins s σ H D I hw=>
 Om (h pins s σ H D (I.wish _) hw) (λ_ _ q=>q.unwish) λ_ _ z=>F6 z
end
section
variable{X:Cx}{st:Stmt}{dm:List Stmt}{t u:TS}{e:Expr}{te:TE}{pos:Pos}
def vO:TS:=λD σ H=>D.nx σ H
def BQ(t u:TS):TS:=λD σ H=>t { D with nx:=u D } σ H
theorem vP:PSs X [] vO:=λ_ _ σ H _ I h=>wpAny_execs_nil ⟨σ,H,I,h⟩
theorem sg(h1:PS X st t)(h2:PSs X dm u):PSs X (st::dm) (BQ t u):=by
 intro pins s σ H D I h;refine wpAny_execs_cons (thn (h1 pins s σ H { D with nx:=u D } I h) λf s1 q=>?_);cases f with
 | next=>
  obtain⟨σ',H',I',q⟩:=q;exact h2 pins s1 σ' H' D I' q
 | ret v=>exact q
 | brk=>exact q
 | cont=>exact q
theorem vQ(h1:PS X st t):PSs X [st] t:=by
 intro pins s σ H D I h;refine wpAny_execs_cons (thn (h1 pins s σ H D I h) λf s1 q=>?_);cases f with
 | next=>exact wpAny_execs_nil q
 | ret v=>exact q
 | brk=>exact q
 | cont=>exact q
theorem Inv.quiet{pins:List (Addr×Obj)}{σ:St}{H:Hp}{s:Shared}(I:Inv X pins σ H s):interactive X.env=false:=by simp[interactive,I.ok.kind]
def vR(te:TE):TS:=λD σ H=>te σ H λ_ H1=>D.nx σ H1
theorem vS(he:PE X e te)(hs:OC e none pos.line X.env=pure false:=by rfl):PS X (.Expr e pos) (vR te):=by
 intro pins s σ H D I h;exact wpAny_Expr_any (thn (he pins s σ H _ I h) λv s1 ⟨x,H1,I1,r1,q1⟩=>⟨σ,H1,I1,q1⟩) I.quiet hs
def BR(te:TE):TS:=λD σ H=>te σ H D.rt
theorem y4(he:PE X e te):PS X (.Return (some e) pos) (BR te):=by
 intro pins s σ H D I h;exact wpAny_Return_some (thn (he pins s σ H _ I h) λv s1 ⟨x,H1,I1,r1,q1⟩=>⟨x,σ,H1,I1,r1,q1⟩)
def BS(c:TT)(t u:TS):TS:=λD σ H=>c σ H λb H1=>if b=true then t D σ H1 else u D σ H1
theorem BU{c:Expr}{a b:List Stmt}{tc:TT}(hc:PT X c tc)(ha:PSs X a t)(hb:PSs X b u):PS X (.If c a b pos) (BS tc t u):=by
 intro pins s σ H D I h;refine wpAny_If (thn (hc pins s σ H _ I h) λd s1 ⟨H1,I1,q1⟩=>?_);cases d with
 | true=>exact ha pins s1 σ H1 D I1 q1
 | false=>exact hb pins s1 σ H1 D I1 q1
def uL:TS:=λ_ _ _=>False
theorem sh:PS X st uL:=λ_ _ _ _ _ _ h=>h.elim
end
noncomputable abbrev TG:=V->St->Hp->(St->Hp->Prop)->Prop
noncomputable abbrev TGs:=List V->St->Hp->(St->Hp->Prop)->Prop
def PG(X:Cx)(target:Expr)(t:TG):Prop:=
 ∀(pins:List (Addr×Obj)) (s:Shared) (σ:St) (H:Hp) (v:V) (u:Value) (Q:St->Hp->Prop),Inv X pins σ H s->RelV v u->t v σ H Q->
  wpAny (model X.prog X.w) X.A (assign target X.env u) (λ_ s'=>∃σ' H',Inv X pins σ' H' s'/\Q σ' H') X.xe s
def PGs(X:Cx)(ts:List Expr)(t:TGs):Prop:=
 ∀(pins:List (Addr×Obj)) (s:Shared) (σ:St) (H:Hp) (vs:List V) (us:List Value) (Q:St->Hp->Prop),Inv X pins σ H s->Vals vs us->t vs σ H Q->
  wpAny (model X.prog X.w) X.A (assignInOrder ((Oy ts X.env).map (·.2)) us) (λ_ s'=>∃σ' H',Inv X pins σ' H' s'/\Q σ' H') X.xe s
noncomputable abbrev Bk:=V->V->V->Hp->(Hp->Prop)->Prop
def Di(X:Cx)(t:Bk):Prop:=
 ∀(pins:List (Addr×Obj)) (s:Shared) (σ:St) (H:Hp) (o i v:V) (ov iv u:Value) (Q:Hp->Prop),Inv X pins σ H s->RelV o ov->RelV i iv->RelV v u->t o i v H Q->
  wpAny (model X.prog X.w) X.A (setItem ov iv u) (λ_ s'=>∃H',Inv X pins σ H' s'/\Q H') X.xe s
noncomputable abbrev TIp:=V->V->Hp->VK->Prop
def PIp(X:Cx)(op:Operator)(t:TIp):Prop:=
 ∀(pins:List (Addr×Obj)) (s:Shared) (σ:St) (H:Hp) (x y:V) (v u:Value) (Q:VK),Inv X pins σ H s->RelV x v->RelV y u->t x y H Q->
  wpAny (model X.prog X.w) X.A (OF op v u) (EP X pins σ Q) X.xe s
section
variable{X:Cx}{pos:Pos}
def dJ(i:Nat):TG:=λv σ H Q=>Q (σ.set i (some v)) H
theorem vT{i:Nat}{x:Str}(hN:X.N.Nodup)(hi:X.N[i]? = some x)(hx:Loc X.env.scope x)(hf:X.fn x=true\/X.env.scope.names.lookup x=some .local:=by first|exact .inl rfl|exact .inr rfl|assumption):PG X (.Name x pos) (dJ i):=by
 intro pins s σ H v u Q I r h;exact wpAny_assign_Name (eD I hN hi hx r (λs' I'=>⟨_,H,I',h⟩) hf)
noncomputable def Bl:TGs:=λvs σ H Q=>vs=[]/\Q σ H
noncomputable def kZ(t:TG)(u:TGs):TGs:=λvs σ H Q=>∃v r,vs=v::r/\t v σ H λσ' H'=>u r σ' H' Q
theorem vU:PGs X [] Bl:=by
 intro pins s σ H vs us Q I r h;obtain⟨e,h⟩:=h;subst e;cases r;exact assignInOrder_nil ⟨σ,H,I,h⟩
theorem si{e:Expr}{es:List Expr}{t:TG}{u:TGs}(h1:PG X e t)(h2:PGs X es u)
  (hs:(Oy (e::es) X.env).map (·.2)=assign e X.env::(Oy es X.env).map (·.2):=by rfl):PGs X (e::es) (kZ t u):=by
 intro pins s σ H vs us Q I r h;obtain⟨v,vr,e1,h⟩:=h;subst e1;cases r with
 | cons r rr=>
  rw[hs];refine assignInOrder_cons (thn (h1 pins s σ H _ _ _ I r h) λ_ s1 ⟨σ1,H1,I1,q1⟩=>?_);exact h2 pins s1 σ1 H1 _ _ Q I1 rr q1
def Bm(K:EG)(n:Nat)(t:TGs):TG:=λv σ H Q=>∃a xs,v=.ref a/\SqT K H a xs/\xs.length=n/\t xs σ H Q
theorem y7{es:List Expr}{k:Nat}{t:TGs}{n:Nat}(hc:X.calm=true)(h:PGs X es t)
  (hn:(Oy es X.env).length=n:=by rfl) (hst:(Oy es X.env).findIdx? (·.1)=none:=by rfl):PG X (.Tuple es k pos) (Bm X.K n t):=by
 intro pins s σ H v u Q I r hw;obtain⟨a,xs,e1,hq,hl,hw⟩:=hw;subst e1;cases r;obtain⟨its,rv,ht,hz⟩:=I.tuple hq;refine assign_Tuple_tuple (I.ok.hd hc) ht (by simp[hn,<-hl,rv.length]) hst λh' hx=>?_
 have I1:Inv X pins σ H { s with heap:=h' }:=I.kept (t':=s.toks) λb o e=>hx b o (Fc (EV e)) e
 exact h pins _ σ H xs _ Q I1 (by simpa using rv) hw
def BV(to ti:TE)(t:Bk):TG:=λv σ H Q=>to σ H λo H1=>ti σ H1 λi H2=>t o i v H2 λH3=>Q σ H3
theorem y8{o i:Expr}{to ti:TE}{t:Bk}(ho:PE X o to)(hi:PE X i ti)(hs:Di X t)
  (ha:∀v,assign (.Subscript o i pos) X.env v=(do
   let ov <-OI [v] (eval o X.env)
   let iv <-OI [v,ov] (eval i X.env)
   OH pos
   OI [v,ov,iv] (setItem ov iv v)
   release [v,ov,iv] []):=by intro _;rfl):PG X (.Subscript o i pos) (BV to ti t):=by
 intro pins s σ H v u Q I r h;rw[ha];refine Oh (Ox (thn (ho pins s σ H _ I h) λov s1 ⟨x,H1,I1,r1,q1⟩=>?_));refine Oh (Ox (thn (hi pins s1 σ H1 _ I1 q1) λiv s2 ⟨y,H2,I2,r2,q2⟩=>?_));refine Oh (Ot (Oh (Ox (thn (hs pins s2 σ H2 x y v ov iv u _ I2 r1 r2 r q2) λ_ s3 ⟨H3,I3,q3⟩=>?_))));exact wpAny_release ⟨σ,H3,I3,q3⟩
def ow(te:TE)(g:TG):TS:=λD σ H=>te σ H λx H1=>g x σ H1 D.nx
theorem uM{tg e:Expr}{te:TE}{g:TG}(he:PE X e te)(hg:PG X tg g)(hs:swapsWithSole [tg] e pos.line X.env=pure false:=by rfl)(hw:swappedStores [tg] e X.env=pure none:=by rfl)
  (h1:(Oy [tg] X.env).map (·.2)=[assign tg X.env]:=by rfl):PS X (.Assign [tg] e pos) (ow te g):=by
 intro pins s σ H D I h;refine wpAny_Assign_stores (thn (he pins s σ H _ I h) λv s1 ⟨x,H1,I1,r1,q1⟩=>?_) hs hw;rw[h1];exact thn (hg pins s1 σ H1 x v _ I1 r1 q1) λ_ s2 q=>q
theorem y9{i:Nat}{x:Str}{e:Expr}{te:TE}{pos':Pos}(hN:X.N.Nodup)(hi:X.N[i]? = some x)(hx:Loc X.env.scope x)(he:PE X e te)(hs:OC e (some (.Name x pos')) pos.line X.env=pure false:=by rfl)(hf:X.fn x=true\/X.env.scope.names.lookup x=some .local:=by first|exact .inl rfl|exact .inr rfl|assumption):
  PS X (.Assign [.Name x pos'] e pos) (ow te (dJ i)):=by
 intro pins s σ H D I h;refine wpAny_Assign_Name (thn (he pins s σ H _ I h) λv s1 ⟨y,H1,I1,r1,q1⟩=>?_) hs;exact eD I1 hN hi hx r1 (λs2 I2=>⟨_,H1,I2,q1⟩) hf
def BW(i j:Nat)(ta:TA):TS:=λD σ H=>ta σ H λvs H1=>∃v w,vs=[v,w]/\D.nx ((σ.set i (some v)).set j (some w)) H1
theorem za{i j:Nat}{x y:Str}{a b:Expr}{ta:TA}{px py pt:Pos}{kt k2 pt2}(hc:X.calm=true)(hN:X.N.Nodup)(hi:X.N[i]? = some x)(hj:X.N[j]? = some y)(hij:i≠j)
  (hx:X.env.scope.names.lookup x=some .local) (hy:X.env.scope.names.lookup y=some .local) (ha:PA X [a,b] ta)
  (hw:swappedStores [.Tuple [.Name x px,.Name y py] kt pt] (.Tuple [a,b] k2 pt2) X.env=pure (some [x,y]))
  (hs:swapsWithSole [.Tuple [.Name x px,.Name y py] kt pt] (.Tuple [a,b] k2 pt2) pos.line X.env=pure false:=by rfl) :
  PS X (.Assign [.Tuple [.Name x px,.Name y py] kt pt] (.Tuple [a,b] k2 pt2) pos) (BW i j ta):=by
 intro pins s σ H D I h;rw[exec_Assign_arm];refine Oh (Ot ?_);rw[hs];refine Oh (Oi ?_);rw[if_neg (by decide)];refine Oh (Tuple_ (thn (ha _ pins s σ H _ I h) λus s1 ⟨vs,H1,I1,r1,q1⟩=>?_));obtain⟨v,w,e1,q1⟩:=q1;subst e1;obtain⟨u1,u2,rfl,rv,rw'⟩:∃u1 u2,us=[u1,u2]/\RelV v u1/\RelV w u2:=by
  cases r1 with
  | cons p q=>
   cases q with
   | cons p' q'=>
    cases q';exact⟨_,_,rfl,p,p'⟩
 refine wpAny_newObj_type ?_ (by show 2<=sizeLine;decide);have I2:Inv X pins σ H1 { s1 with heap:=s1.heap.push { cls:=.type "tuple",data:=.seq [u1,u2].toArray } }:=I1.kept (t':=s1.toks) λb o e=>EJ _ e
 rw[hw];refine Oh (Oi ?_);show wpAny (model X.prog X.w) X.A (do rule "assign.swapped-stores";let items <-unpackItems (.ref s1.heap.objs.size) 2 none;assignInOrder [λv=>bindName X.env y v,λv=>bindName X.env x v] items.reverse;pure NB) _ _ _
 refine Oh (wpAny_rule (Oh (unpackItems_tuple (items:=#[u1,u2]) (I.ok.hd hc) (NC s1.heap _) λh' hx'=>?_)));have I3:=I2.kept (h':=h') (t':=s1.toks) λb o e=>hx' b o (Fc (EV e)) e
 show wpAny _ _ (assignInOrder [λv=>bindName X.env y v,λv=>bindName X.env x v] [u2,u1] >>= λ_=>pure NB) _ _ _
 refine Oh (assignInOrder_cons (wpAny_bindName (eD I3 hN hj (.inl hy) rw' (λs2 I4=>?_) (.inr hy))));refine assignInOrder_cons (wpAny_bindName (eD I4 hN hi (.inl hx) rv (λs3 I5=>assignInOrder_nil (Oi ?_)) (.inr hx)));rw[List.set_comm _ _ (E7 hij)]at I5;exact⟨_,H1,I5,q1⟩
def BX(i:Nat)(te:TE)(ti:TIp):TS:=λD σ H=>∃x,σ[i]? = some (some x)/\te σ H λy H1=>ti x y H1 λz H2=>D.nx (σ.set i (some z)) H2
theorem zb{i:Nat}{x:Str}{e:Expr}{te:TE}{op:Operator}{ti:TIp}{pos':Pos}(hN:X.N.Nodup)(hi:X.N[i]? = some x)(hx:Loc X.env.scope x)(he:PE X e te)(ho:PIp X op ti)(hf:X.fn x=true\/X.env.scope.names.lookup x=some .local:=by first|exact .inl rfl|exact .inr rfl|assumption):
  PS X (.AugAssign (.Name x pos') op e pos) (BX i te ti):=by
 intro pins s σ H D I h;obtain⟨v,e1,h⟩:=h;obtain⟨m,hn,hl⟩:=I.loc;have vis:Vis X.env.scope x:=by rcases hx with k|k;exact .inl k;exact .inr (.inl k)
 obtain⟨u,r,l⟩:=hl i x v hi e1 vis;refine wpAny_AugAssign_Name ?_;have go:wpAny (model X.prog X.w) X.A (eval e X.env) (λw s₂=>wpAny (model X.prog X.w) X.A (OF op u w) (λr s₃=>wpAny (model X.prog X.w) X.A (storeName X.env x r) (λ_=>SP X pins D .next) X.xe s₃) X.xe s₂) X.xe s:=by
  refine thn (he pins s σ H _ I h) λw s1 ⟨y,H1,I1,r1,q1⟩=>?_
  refine thn (ho pins s1 σ H1 v y u w _ I1 r r1 q1) λz s2 ⟨zv,H2,I2,r2,q2⟩=>?_
  exact eD I2 hN hi hx r2 (λs3 I3=>⟨_,H2,I3,q2⟩) hf
 rcases l with⟨hk,hm⟩|⟨hk,c,hc,hcell⟩
 ·exact wpAny_loadName_local I.ok.kind hk hn hm go
 ·rcases hk with hk|hk
  ·exact wpAny_loadName_cell I.ok.kind hk hc hcell go
  ·rcases hx with k|k
   ·have:X.env.scope.names.lookup x=some .free:=hk
    rw[k]at this;cases this
   ·have:X.env.scope.names.lookup x=some .free:=hk
    rw[k]at this;cases this
end
section
variable{X:Cx}{pos:Pos}
def uN(c:TT)(tb:TS):TS:=λD σ H=>∃W:Nat->St->Hp->Prop,(∃m,W m σ H)/\∀m σ H,W m σ H->
 c σ H λb H1=>if b=true then ∃N:St->Hp->Prop,(∀σ' H',N σ' H'->∃m',m'<m/\W m' σ' H')/\tb { D with nx:=N,ct:=N,bk:=D.nx } σ H1 else D.nx σ H1
theorem sj{c:Expr}{body:List Stmt}{tc:TT}{tb:TS}(hp:PassesOwn (model X.prog X.w) X.A X.env X.xe)(hc:PT X c tc)(hb:PSs X body tb):PS X (.While c body [] pos) (uN tc tb):=by
 intro pins s σ H D I h;obtain⟨W,⟨m0,w0⟩,turn⟩:=h;refine wpAny_While (codeAny_whileLoop (λn s'=>∃σ' H',Inv X pins σ' H' s'/\W n σ' H') ?_ m0 ⟨σ,H,I,w0⟩);rintro n s1 ⟨σ1,H1,I1,w1⟩;refine Oz hp (thn (hc pins s1 σ1 H1 _ I1 (turn n σ1 H1 w1)) λb s2 ⟨H2,I2,q2⟩=>?_);cases b with
 | true=>
  obtain⟨N,hN,q2⟩:=q2;rw[if_pos rfl];refine Oz hp (thn (hb pins s2 σ1 H2 _ I2 q2) λf s3 q3=>?_);cases f with
  | next=>
   obtain⟨σ3,H3,I3,n3⟩:=q3;obtain⟨m',hm,w3⟩:=hN σ3 H3 n3;exact⟨m',hm,σ3,H3,I3,w3⟩
  | cont=>
   obtain⟨σ3,H3,I3,n3⟩:=q3;obtain⟨m',hm,w3⟩:=hN σ3 H3 n3;exact⟨m',hm,σ3,H3,I3,w3⟩
  | brk=>exact q3
  | ret v=>exact q3
 | false=>
  rw[if_neg E9];exact wpAny_execs_nil ⟨σ1,H2,I2,q2⟩
end
structure It where
 go:Nat->Hp->Prop
 yld:Nat->Hp->V->Hp->Prop
 stop:Nat->Hp->Prop
def ox(X:Cx)(pins:List (Addr×Obj))(H:Hp)(b:Addr):Prop:=
 H b=none/\b≠X.env.locals/\b∉X.fs/\(b∈X.ex\/X.s₀.heap.objs.size<=b)/\(∀x c,X.env.cells.lookup x=some c->c≠b)/\∀p∈X.pn++pins,p.1≠b
theorem Inv.fpOk{X:Cx}{pins:List (Addr×Obj)}{σ:St}{H H':Hp}{s:Shared}{b:Addr}(I:Inv X pins σ H s)(hb:s.heap.objs.size<=b)(hn:H' b=none):ox X pins H' b:=by
 refine⟨hn,GL (Fb I.lt hb),I.nofs hb,.inr (FB I.sz hb),λx c e z=>?_,λp hp z=>?_⟩
 ·obtain⟨v,q⟩:=I.cell x c e
  exact absurd (Fb q.lt (by rw[z];exact hb)) (FM _)
 ·exact absurd (Fb (EV (I.pin p hp).1) (by rw[z];exact hb)) (FM _)
structure Turn (P:Program) (w:World) (K:EG) (tg:Expr) (J:It) (fp:List Addr) (it:Addr) (tn:Nat->Heap->Prop):Prop where
 mem:it∈fp
 obj:∀i h,tn i h->∀b∈fp,∃o,h.get? b=some o/\∀v,o.data≠.cell v
 keep:∀i h h',tn i h->(∀b∈fp,∀o,h.get? b=some o->h'.get? b=some o)->tn i h'
 item:∀(X:Cx),X.prog=P->X.w=w->X.K=K->X.calm=true->∀(i:Nat) (pins:List (Addr×Obj)) (s:Shared) (σ:St) (H:Hp) (E:Value->Shared->Prop),Inv X pins σ H s->(∀b∈fp,ox X pins H b)->tn i s.heap->J.go i H->
  wpAny (model P w) X.A (pyNext (.ref it)) (λr s1=>∃u,r=some u/\
   wpAny (model P w) X.A (letOwnedTupleGo tg (.ref it) u) (λ_ s2=>∃x H',Inv X pins σ H' s2/\RelV x u/\J.yld i H x H'/\tn (i+1) s2.heap/\∀b∈fp,H' b=none) E s1) E s
 done:∀(X:Cx),X.prog=P->X.w=w->X.K=K->X.calm=true->∀(i:Nat) (pins:List (Addr×Obj)) (s:Shared) (σ:St) (H:Hp) (E:Value->Shared->Prop),Inv X pins σ H s->(∀b∈fp,ox X pins H b)->tn i s.heap->J.stop i H->
  wpAny (model P w) X.A (pyNext (.ref it)) (λr s1=>r=none/\Inv X pins σ H s1) E s
 self:∀(A:Around) (i:Nat) (s:Shared) (Q:Value->Shared->Prop) (E:Value->Shared->Prop),tn i s.heap->Q (.ref it) s->wpAny (model P w) A (pyIter (.ref it)) Q E s
noncomputable abbrev TI:=St->Hp->(It->Hp->Prop)->Prop
def PIE(X:Cx)(pins:List (Addr×Obj))(σ:St)(tg:Expr)(R:It->Hp->Prop)(itv:Value)(s2:Shared):Prop:=
 ∃(it:Addr) (fp:List Addr) (tn:Nat->Heap->Prop) (J:It) (H':Hp),itv=.ref it/\Inv X pins σ H' s2/\Turn X.prog X.w X.K tg J fp it tn/\tn 0 s2.heap/\(∀b∈fp,ox X pins H' b)/\R J H'
def PI(X:Cx)(tg iter:Expr)(wi:TI):Prop:=
 ∀(pins:List (Addr×Obj)) (s:Shared) (σ:St) (H:Hp) (R:It->Hp->Prop),Inv X pins σ H s->wi σ H R->
  wpAny (model X.prog X.w) X.A (eval iter X.env) (λv s1=>wpAny (model X.prog X.w) X.A (pyIter v) (PIE X pins σ tg R) X.xe s1) X.xe s
theorem oA{M:Model}{A:Around}{E:Value->Shared->Prop}{s:Shared}{tg:Expr}{it:Addr}{u:Value}{o:Obj}{n:String}{vs:Array Value}{Q:Unit->Shared->Prop}(ho:s.heap.get? it=some o)(hc:o.cls=.type n)(hd:o.data=.fields vs)
    (hn:["enumerate","zip","dict_itemiterator","dict_reverseitemiterator","odict_iterator","itertools.zip_longest","itertools.pairwise"].contains n=false) (hQ:Q () s):wpAny M A (letOwnedTupleGo tg (.ref it) u) Q E s:=by
  unfold letOwnedTupleGo;cases tg<;>first
    | exact Oi hQ
    | (cases u<;>first
        | exact Oi hQ
        | (refine Oh (wpAny_load ho ?_)
           rw[hc,hd];show wpAny M A (if(["enumerate","zip","dict_itemiterator","dict_reverseitemiterator","odict_iterator","itertools.zip_longest","itertools.pairwise"].contains n && vs[0]? == some (rawInt _))=true then _ else _) Q E s
           rw[if_neg (by intro h;rw[hn,Bool.false_and]at h;cases h)];exact Oi hQ))
def Itl(K:EG)(a:Addr):It:=
 ⟨λi H=>∃xs x,SqL K H a xs/\xs[i]? = some x,λi H x H'=>H'=H/\∀xs,SqL K H a xs->xs[i]? = some x,λi H=>∃xs,SqL K H a xs/\xs.length<=i⟩
def Itt(K:EG)(a:Addr):It:=
 ⟨λi H=>∃xs x,SqT K H a xs/\xs[i]? = some x,λi H x H'=>H'=H/\∀xs,SqT K H a xs->xs[i]? = some x,λi H=>∃xs,SqT K H a xs/\xs.length<=i⟩
def Itr(lo:Int)(n:Nat):It:=⟨λi _=>i<n,λi H x H'=>H'=H/\x=.int (lo+i),λi _=>n<=i⟩
theorem oB{P:Program}{w:World}{K:EG}{tg:Expr}(a it:Addr):Turn P w K tg (Itl K a) [it] it (λi h=>h.IsListIter it a i) where
 mem:=by simp
 obj:=λi h st b hb=>by
  have e:b=it:=by simpa using hb
  subst e;obtain⟨o,e,c,d⟩:=st;exact⟨o,e,λv z=>by rw[d]at z;cases z⟩
 keep:=λi h h' st k=>st.at λo e=>k it (by simp) o e
 item:=by
  intro X hP hw hK hc i pins s σ H E I hf st hg;subst hP hw hK;obtain⟨xs,x,hq,hx⟩:=hg;obtain⟨its,rv,p,hz⟩:=I.list hq;obtain⟨u,hu,ru⟩:=rv.get hx;obtain⟨f0,f1,f2,f3,f4,f5⟩:=hf it (by simp);refine wpAny_pyNext_list_item st p.isList (x:=u) (by simpa using hu) λh' st' sb=>?_
  have I1:Inv X pins σ H { s with heap:=h' }:=I.turned (t':=s.toks) (λb o hb e=>(sb.2 b hb).trans e) f0 f1 f3 f4 f5;obtain⟨o,e,c,d⟩:=id st';exact⟨u,rfl,oA (s:={ s with heap:=h' }) e c d (by decide) ⟨x,H,I1,ru,⟨rfl,λys hy=>by rw[I.list_inj hy hq];exact hx⟩,st',λb hb=>(hf b hb).1⟩⟩
 done:=by
  intro X hP hw hK hc i pins s σ H E I hf st hg;subst hP hw hK;obtain⟨xs,hq,hx⟩:=hg;obtain⟨its,rv,p,hz⟩:=I.list hq;obtain⟨f0,f1,f2,f3,f4,f5⟩:=hf it (by simp);have hl:=rv.length;exact wpAny_pyNext_list_end (I.ok.hd hc) st p.isList (by simp;lia) λh' eb=>⟨rfl,I.turned (t':=s.toks) (λb o hb e=>eb b o hb e) f0 f1 f3 f4 f5⟩
 self:=λ_ _ _ _ _ st h=>wpAny_pyIter_listiter st h
theorem nC{P:Program}{w:World}{K:EG}{tg:Expr}(a it:Addr):Turn P w K tg (Itt K a) [it] it (λi h=>h.IsTupleIter it a i) where
 mem:=by simp
 obj:=λi h st b hb=>by
  have e:b=it:=by simpa using hb
  subst e;obtain⟨o,e,c,d⟩:=st;exact⟨o,e,λv z=>by rw[d]at z;cases z⟩
 keep:=λi h h' st k=>st.at λo e=>k it (by simp) o e
 item:=by
  intro X hP hw hK hc i pins s σ H E I hf st hg;subst hP hw hK;obtain⟨xs,x,hq,hx⟩:=hg;obtain⟨its,rv,p,hz⟩:=I.tuple hq;obtain⟨u,hu,ru⟩:=rv.get hx;obtain⟨f0,f1,f2,f3,f4,f5⟩:=hf it (by simp);refine wpAny_pyNext_tuple_item st (show s.heap.IsTuple a its.toArray from p) (x:=u) (by simpa using hu) λh' st' sb=>?_
  have I1:Inv X pins σ H { s with heap:=h' }:=I.turned (t':=s.toks) (λb o hb e=>(sb.2 b hb).trans e) f0 f1 f3 f4 f5;obtain⟨o,e,c,d⟩:=id st';exact⟨u,rfl,oA (s:={ s with heap:=h' }) e c d (by decide) ⟨x,H,I1,ru,⟨rfl,λys hy=>by rw[I.tuple_inj hy hq];exact hx⟩,st',λb hb=>(hf b hb).1⟩⟩
 done:=by
  intro X hP hw hK hc i pins s σ H E I hf st hg;subst hP hw hK;obtain⟨xs,hq,hx⟩:=hg;obtain⟨its,rv,p,hz⟩:=I.tuple hq;obtain⟨f0,f1,f2,f3,f4,f5⟩:=hf it (by simp);have hl:=rv.length;exact wpAny_pyNext_tuple_end (I.ok.hd hc) st (show s.heap.IsTuple a its.toArray from p) (by simp;lia) λh' eb=>⟨rfl,I.turned (t':=s.toks) (λb o hb e=>eb b o hb e) f0 f1 f3 f4 f5⟩
 self:=λ_ _ _ _ _ st h=>wpAny_pyIter_tupleiter st h
theorem nD{P:Program}{w:World}{K:EG}{tg:Expr}(it:Addr)(lo:Int)(n:Nat):Turn P w K tg (Itr lo n) [it] it (λi h=>IsRangeIter h it (lo+(i:Nat)*1) ((n:Int) - (i:Nat)) 1) where
 mem:=by simp
 obj:=λi h st b hb=>by
  have e:b=it:=by simpa using hb
  subst e;exact⟨_,st,λv z=>by
   have z':MT _=ND v:=z;cases z'⟩
 keep:=λi h h' st k=>k it (by simp) _ st
 item:=by
  intro X hP hw hK hc i pins s σ H E I hf st hg;subst hP hw hK;obtain⟨f0,f1,f2,f3,f4,f5⟩:=hf it (by simp);have W:=MU (prog:=X.prog) (w:=X.w) (I.ok.hd hc) it lo 1 n;refine W.item i s _ _ hg st λv h' tk hv st' kk=>?_
  obtain⟨t,rfl⟩:=hv;have I1:Inv X pins σ H { s with heap:=h',toks:=tk }:=I.turned (λb o hb e=>kk b o (by simpa using hb) e) f0 f1 f3 f4 f5;refine⟨_,rfl,oA (s:={ s with heap:=h',toks:=tk }) (n:="range_iterator") st' rfl rfl (by decide) ⟨.int (lo+i),H,I1,⟨t,?_⟩,⟨rfl,rfl⟩,st',λb hb=>(hf b hb).1⟩⟩;rw[MV]
 done:=by
  intro X hP hw hK hc i pins s σ H E I hf st hg;subst hP hw hK;obtain⟨f0,f1,f2,f3,f4,f5⟩:=hf it (by simp);exact wpAny_pyNext_range_end (I.ok.hd hc) st (by have:n<=i:=hg;lia) λh' eb=>⟨rfl,I.turned (t':=s.toks) (λb o hb e=>eb b o hb e) f0 f1 f3 f4 f5⟩
 self:=λ_ _ _ _ _ st h=>wpAny_pyIter_rangeiter st h
section
variable{X:Cx}{tg:Expr}
def vV(K:EG)(tl:TE):TI:=λσ H R=>tl σ H λx H1=>∃a,x=.ref a/\(∃xs,SqL K H1 a xs)/\R (Itl K a) H1
def BY(K:EG)(tl:TE):TI:=λσ H R=>tl σ H λx H1=>∃a,x=.ref a/\(∃xs,SqT K H1 a xs)/\R (Itt K a) H1
theorem vW{l:Expr}{tl:TE}(hl:PE X l tl):PI X tg l (vV X.K tl):=by
 intro pins s σ H R I h;refine thn (hl pins s σ H _ I h) λv s1 ⟨x,H1,I1,r1,q1⟩=>?_
 obtain⟨a,e,⟨xs,hq⟩,q⟩:=q1;subst e;cases r1;obtain⟨its,rv,p,hz⟩:=I1.list hq;refine wpAny_pyIter_list p.isList ?_;refine⟨s1.heap.objs.size,[s1.heap.objs.size],_,_,H1,rfl,I1.kept (t':=s1.toks) λb o e=>EJ _ e,oB a _,⟨_,E5 _ rfl,rfl,rfl⟩,λb hb=>?_,q⟩;have e:b=s1.heap.objs.size:=by simpa using hb
 subst e;exact I1.fpOk (EI _) (I1.hok.fresh (EI _))
theorem zc{l:Expr}{tl:TE}(hl:PE X l tl):PI X tg l (BY X.K tl):=by
 intro pins s σ H R I h;refine thn (hl pins s σ H _ I h) λv s1 ⟨x,H1,I1,r1,q1⟩=>?_
 obtain⟨a,e,⟨xs,hq⟩,q⟩:=q1;subst e;cases r1;obtain⟨its,rv,p,hz⟩:=I1.tuple hq;refine wpAny_pyIter_tuple (show s1.heap.IsTuple a its.toArray from p) ?_;refine⟨s1.heap.objs.size,[s1.heap.objs.size],_,_,H1,rfl,I1.kept (t':=s1.toks) λb o e=>EJ _ e,nC a _,⟨_,E5 _ rfl,rfl,rfl⟩,λb hb=>?_,q⟩;have e:b=s1.heap.objs.size:=by simpa using hb
 subst e;exact I1.fpOk (EI _) (I1.hok.fresh (EI _))
theorem sk{pins:List (Addr×Obj)}{σ:St}{H:Hp}{s:Shared}{R:It->Hp->Prop}{E:Value->Shared->Prop}{lo hi:Int}{t u v:Tok}{tk:Nat}(I:Inv X pins σ H s)(h1:-(2 ^ 62)<=lo)(h2:lo<2 ^ 62)(h3:-(2 ^ 62)<=hi)(h4:hi<2 ^ 62)
  (q:R (Itr lo (hi - lo).toNat) H):wpAny (model X.prog X.w) X.A (pyIter (.ref s.heap.objs.size)) (PIE X pins σ tg R) E { s with heap:=s.heap.push { cls:=.type "range",data:=.fields #[.int lo t,.int hi u,.int 1 v] },toks:=tk }:=by
 refine wpAny_pyIter_range (MW ..) (small_one h1 h2 h3 h4) ?_;have I1:Inv X pins σ H { s with heap:=s.heap.push { cls:=.type "range",data:=.fields #[.int lo t,.int hi u,.int 1 v] },toks:=tk }:=I.kept λb o e=>EJ _ e
 refine⟨(s.heap.push { cls:=.type "range",data:=.fields #[.int lo t,.int hi u,.int 1 v] }).objs.size,[(s.heap.push { cls:=.type "range",data:=.fields #[.int lo t,.int hi u,.int 1 v] }).objs.size],_,_,H,rfl,
  I1.kept (t':=tk) λb o e=>EJ _ e,nD _ lo (hi - lo).toNat,?_,λb hb=>?_,q⟩
 ·have e1:lo+((0:Nat):Int)*1=lo:=by simp
  have e2:(((hi - lo).toNat:Nat):Int) - ((0:Nat):Int)=Gq lo hi 1:=by rw[rangeSize_one];split<;>lia
  show IsRangeIter _ _ (lo+((0:Nat):Int)*1) ((((hi - lo).toNat:Nat):Int) - ((0:Nat):Int)) 1
  rw[e1,e2];exact E5 _ rfl
 ·have e:b=(s.heap.push { cls:=.type "range",data:=.fields #[.int lo t,.int hi u,.int 1 v] }).objs.size:=by simpa using hb
  subst e;exact I1.fpOk (EI _) (I1.hok.fresh (EI _))
def vX(ta:TA):TI:=λσ H R=>ta σ H λvs H1=>∃j:Int,vs=[.int j]/\-(2 ^ 62)<=j/\j<2 ^ 62/\R (Itr 0 j.toNat) H1
theorem oE {a:Expr}{ta:TA}{p pos:Pos}(hg:Gl X "range") (hm:X.mg "range" = none) (ha:PA X [a] ta) (hs:On [a] X.env=[(false,eval a X.env)]:=by rfl):PI X tg (.Call (.Name "range" p) [a] [] pos) (vX ta):=by
 intro pins s σ H R I h;refine Call_ (eP I hg hm boot_range (FU (thn (ha pos pins s σ H _ I h) λus s1 ⟨vs,H1,I1,r1,q1⟩=>?_) hs rfl));obtain⟨j,e,q1,q2,q⟩:=q1;subst e;cases r1 with
 | cons r rr=>
  cases rr;obtain⟨t,rfl⟩:=r;exact call_range_1 (sk I1 ⋯ ⋯ q1 q2 (by simpa using q))
def BZ(wi:TI)(g:TG)(tb:TS):TS:=λD σ H=>wi σ H λJ H1=>∃W:Nat->Nat->St->Hp->Prop,(∃m,W 0 m σ H1)/\∀i m σ H,W i m σ H->
 (J.stop i H/\D.nx σ H)\/(J.go i H/\∃N:St->Hp->Prop,(∀σ' H',N σ' H'->∃m',m'<m/\W (i+1) m' σ' H')/\∀x H',J.yld i H x H'->g x σ H' λσ2 H2=>tb { D with nx:=N,ct:=N,bk:=D.nx } σ2 H2)
noncomputable def jS(fp:List Addr)(h:Heap):List (Addr×Obj):=fp.filterMap λb=>(h.get? b).map λo=>(b,o)
theorem cj{fp:List Addr}{h:Heap}{b:Addr}{o:Obj}(hb:b∈fp)(e:h.get? b=some o):(b,o)∈jS fp h:=Kj.mpr ⟨b,hb,by rw[e];rfl⟩
theorem jT{fp:List Addr}{h:Heap}{p:Addr×Obj}(hp:p∈jS fp h):p.1∈fp/\h.get? p.1=some p.2:=by
 obtain⟨b,hb,e⟩:=Kj.mp hp;cases q:h.get? b with
 | none=>rw[q]at e;cases e
 | some o=>
  rw[q]at e;have e':(b,o)=p:=EY e;subst e';exact⟨hb,q⟩
theorem Inv.pinned{pins:List (Addr×Obj)}{σ:St}{H:Hp}{s:Shared}{fp:List Addr}(I:Inv X pins σ H s)(hf:∀b∈fp,ox X pins H b)(ho:∀b∈fp,∃o,s.heap.get? b=some o/\∀v,o.data≠.cell v):Inv X (pins++jS fp s.heap) σ H s:=
 I.pins_of λp hp=>(Fq.mp hp).elim (λz=>I.pin p (ET _ z)) λz=>by
  obtain⟨hb,e⟩:=jT z;obtain⟨f0,f1,f2,_⟩:=hf p.1 hb;obtain⟨o,e',d⟩:=ho p.1 hb;rw[e]at e';cases e';exact⟨e,f0,f1,f2,d⟩
theorem Inv.unpinned{pins pl:List (Addr×Obj)}{σ:St}{H:Hp}{s:Shared}(I:Inv X (pins++pl) σ H s):Inv X pins σ H s:=I.pins_of λp hp=>I.pin p (ET _ (Hb _ hp))
theorem zd{iter:Expr}{body:List Stmt}{wi:TI}{g:TG}{tb:TS}{pos:Pos}(hp:PassesOwn (model X.prog X.w) X.A X.env X.xe)(hc:X.calm=true)(hi:PI X tg iter wi)(hg:PG X tg g)(hb:PSs X body tb)
  (hs:∀x,Ol iter X.env x=pure x:=by intro _;rfl):PS X (.For tg iter body [] pos) (BZ wi g tb):=by
 intro pins s σ H D I h;refine wpAny_For (thn (hi pins s σ H _ I h) λv s1 h1=>thn h1 λitv s2 h2=>?_) hs;obtain⟨it,fp,tn,J,H2,e,I2,T,st2,f2,W,⟨m0,w0⟩,turn⟩:=h2;subst e
 -- what stays true of the iterator's objects through the loop
 have stat:∀{H':Hp},(∀b∈fp,H' b=none)->∀b∈fp,ox X pins H' b:=λhn b hb=>⟨hn b hb,(f2 b hb).2⟩
 refine codeAny_forLoop_any (λn s'=>∃i σ' H',Inv X pins σ' H' s'/\tn i s'.heap/\(∀b∈fp,H' b=none)/\W i n σ' H') ?_ m0 ⟨0,σ,H2,I2,st2,λb hb=>(f2 b hb).1,w0⟩;rintro n s3 ⟨i,σ3,H3,I3,st3,fr3,w3⟩;rcases turn i n σ3 H3 w3 with⟨stop,qn⟩|⟨go,N,hN,step⟩
 ·refine Oz hp (thn (T.done X rfl rfl rfl hc i pins s3 σ3 H3 X.xe I3 (stat fr3) st3 stop) λr s4 ⟨hr,I4⟩=>?_)
  subst hr;exact wpAny_execs_nil ⟨σ3,H3,I4,qn⟩
 ·refine Oz hp (thn (T.item X rfl rfl rfl hc i pins s3 σ3 H3 X.xe I3 (stat fr3) st3 go) λr s4 ⟨u,hr,h4⟩=>?_)
  subst hr;refine Oz hp (thn h4 λ_ s5 ⟨x,H5,I5,r5,y5,st5,fr5⟩=>?_);have I5':=I5.pinned (stat fr5) (T.obj _ _ st5);refine Oz hp (thn (hg _ s5 σ3 H5 x u _ I5' r5 (step x H5 y5)) λ_ s6 ⟨σ6,H6,I6,q6⟩=>?_);refine Oz hp (thn (hb _ s6 σ6 H6 _ I6 q6) λf s7 q7=>?_);have again:∀{σ7:St}{H7:Hp},Inv X (pins++jS fp s5.heap) σ7 H7 s7->N σ7 H7->∃m,m<n/\∃i σ' H',Inv X pins σ' H' s7/\tn i s7.heap/\(∀b∈fp,H' b=none)/\W i m σ' H':=λ{σ7 H7} I7 n7=>by
   obtain⟨m',hm,w7⟩:=hN σ7 H7 n7;refine⟨m',hm,i+1,σ7,H7,I7.unpinned,T.keep _ _ _ st5 λb hb o e=>(I7.pin (b,o) (ET _ (ET _ (cj hb e)))).1,λb hb=>?_,w7⟩;obtain⟨o,e,d⟩:=T.obj _ _ st5 b hb;exact(I7.pin (b,o) (ET _ (ET _ (cj hb e)))).2.1
  cases f with
  | next=>obtain⟨σ7,H7,I7,n7⟩:=q7;exact again I7 n7
  | cont=>obtain⟨σ7,H7,I7,n7⟩:=q7;exact again I7 n7
  | brk=>obtain⟨σ7,H7,I7,q7⟩:=q7;exact⟨σ7,H7,I7.unpinned,q7⟩
  | ret v=>obtain⟨x7,σ7,H7,I7,r7,q7⟩:=q7;exact⟨x7,σ7,H7,I7.unpinned,r7,q7⟩
end
theorem eE{K:EG}{a:Addr}{xs:List V}{g:TG}{tb:TS}{D:Ends}{σ:St}{H:Hp}(Pv:Nat->St->Hp->Prop)(h0:Pv 0 σ H)(hl:∀i σ H,i<=xs.length->Pv i σ H->SqL K H a xs)
  (hs:∀i x σ H,xs[i]? = some x->Pv i σ H->g x σ H λσ2 H2=>tb { D with nx:=Pv (i+1),ct:=Pv (i+1),bk:=D.nx } σ2 H2) (hd:∀σ H,Pv xs.length σ H->D.nx σ H) :
  ∃W:Nat->Nat->St->Hp->Prop,(∃m,W 0 m σ H)/\∀i m σ H,W i m σ H->
   ((Itl K a).stop i H/\D.nx σ H)\/((Itl K a).go i H/\∃N:St->Hp->Prop,(∀σ' H',N σ' H'->∃m',m'<m/\W (i+1) m' σ' H')/\∀x H',(Itl K a).yld i H x H'->g x σ H' λσ2 H2=>tb { D with nx:=N,ct:=N,bk:=D.nx } σ2 H2):=by
 refine⟨λi m σ H=>m=xs.length - i/\i<=xs.length/\Pv i σ H,⟨xs.length,by simp,EU _,h0⟩,?_⟩;rintro i m σ H ⟨rfl,hi,p⟩;have q:=hl i σ H hi p;by_cases hlt:i<xs.length
 ·refine .inr ⟨⟨xs,xs[i],q,by simp[hlt]⟩,Pv (i+1),λσ' H' p'=>⟨xs.length - (i+1),by lia,rfl,hlt,p'⟩,λx H' y=>?_⟩
  obtain⟨e,y⟩:=y;subst e;exact hs i x σ _ (y xs q) p
 ·have e:i=xs.length:=by lia
  subst e;exact .inl ⟨⟨xs,q,EI _⟩,hd σ H p⟩
theorem oF{K:EG}{a:Addr}{xs:List V}{g:TG}{tb:TS}{D:Ends}{σ:St}{H:Hp}(Pv:Nat->St->Hp->Prop)(h0:Pv 0 σ H)(hl:∀i σ H,i<=xs.length->Pv i σ H->SqT K H a xs)
  (hs:∀i x σ H,xs[i]? = some x->Pv i σ H->g x σ H λσ2 H2=>tb { D with nx:=Pv (i+1),ct:=Pv (i+1),bk:=D.nx } σ2 H2) (hd:∀σ H,Pv xs.length σ H->D.nx σ H) :
  ∃W:Nat->Nat->St->Hp->Prop,(∃m,W 0 m σ H)/\∀i m σ H,W i m σ H->
   ((Itt K a).stop i H/\D.nx σ H)\/((Itt K a).go i H/\∃N:St->Hp->Prop,(∀σ' H',N σ' H'->∃m',m'<m/\W (i+1) m' σ' H')/\∀x H',(Itt K a).yld i H x H'->g x σ H' λσ2 H2=>tb { D with nx:=N,ct:=N,bk:=D.nx } σ2 H2):=by
 refine⟨λi m σ H=>m=xs.length - i/\i<=xs.length/\Pv i σ H,⟨xs.length,by simp,EU _,h0⟩,?_⟩;rintro i m σ H ⟨rfl,hi,p⟩;have q:=hl i σ H hi p;by_cases hlt:i<xs.length
 ·refine .inr ⟨⟨xs,xs[i],q,by simp[hlt]⟩,Pv (i+1),λσ' H' p'=>⟨xs.length - (i+1),by lia,rfl,hlt,p'⟩,λx H' y=>?_⟩
  obtain⟨e,y⟩:=y;subst e;exact hs i x σ _ (y xs q) p
 ·have e:i=xs.length:=by lia
  subst e;exact .inl ⟨⟨xs,q,EI _⟩,hd σ H p⟩
theorem cy{lo:Int}{n:Nat}{g:TG}{tb:TS}{D:Ends}{σ:St}{H:Hp}(Pv:Nat->St->Hp->Prop)(h0:Pv 0 σ H)
  (hs:∀i σ H,i<n->Pv i σ H->g (.int (lo+i)) σ H λσ2 H2=>tb { D with nx:=Pv (i+1),ct:=Pv (i+1),bk:=D.nx } σ2 H2) (hd:∀σ H,Pv n σ H->D.nx σ H) :
  ∃W:Nat->Nat->St->Hp->Prop,(∃m,W 0 m σ H)/\∀i m σ H,W i m σ H->
   ((Itr lo n).stop i H/\D.nx σ H)\/((Itr lo n).go i H/\∃N:St->Hp->Prop,(∀σ' H',N σ' H'->∃m',m'<m/\W (i+1) m' σ' H')/\∀x H',(Itr lo n).yld i H x H'->g x σ H' λσ2 H2=>tb { D with nx:=N,ct:=N,bk:=D.nx } σ2 H2):=by
 refine⟨λi m σ H=>m=n - i/\i<=n/\Pv i σ H,⟨n,by simp,EU _,h0⟩,?_⟩;rintro i m σ H ⟨rfl,hi,p⟩;by_cases hlt:i<n
 ·refine .inr ⟨hlt,Pv (i+1),λσ' H' p'=>⟨n - (i+1),by lia,rfl,hlt,p'⟩,λx H' y=>?_⟩
  obtain⟨e,y⟩:=y;subst e y;exact hs i σ _ hlt p
 ·have e:i=n:=by lia
  subst e;exact .inl ⟨EI _,hd σ H p⟩
noncomputable abbrev R2:=V->V->Hp->VK->Prop
def OpR(X:Cx)(f:Value->Value->Sem Value)(r:R2):Prop:=
 ∀(pins:List (Addr×Obj)) (s:Shared) (σ:St) (H:Hp) (x y:V) (v u:Value) (Q:VK),Inv X pins σ H s->RelV x v->RelV y u->r x y H Q->
  wpAny (model X.prog X.w) X.A (f v u) (EP X pins σ Q) X.xe s
def UnR(X:Cx)(f:Value->Sem Value)(r:V->Hp->VK->Prop):Prop:=
 ∀(pins:List (Addr×Obj)) (s:Shared) (σ:St) (H:Hp) (x:V) (v:Value) (Q:VK),Inv X pins σ H s->RelV x v->r x H Q->
  wpAny (model X.prog X.w) X.A (f v) (EP X pins σ Q) X.xe s
def cb(X:Cx)(f:Value)(r:List V->Hp->VK->Prop):Prop:=
 ∀(pins:List (Addr×Obj)) (s:Shared) (σ:St) (H:Hp) (xs:List V) (us:List Value) (Q:VK),Inv X pins σ H s->Vals xs us->r xs H Q->
  wpAny (model X.prog X.w) X.A (call f us) (EP X pins σ Q) X.xe s
def D5(X:Cx)(r:V->Hp->(Bool->Hp->Prop)->Prop):Prop:=
 ∀(pins:List (Addr×Obj)) (s:Shared) (σ:St) (H:Hp) (x:V) (v:Value) (Q:Bool->Hp->Prop),Inv X pins σ H s->RelV x v->r x H Q->
  wpAny (model X.prog X.w) X.A (truthy v) (TP X pins σ Q) X.xe s
def tOp(r:R2)(ta tb:TE):TE:=λσ H Q=>ta σ H λx H1=>tb σ H1 λy H2=>r x y H2 Q
def tUn(r:V->Hp->VK->Prop)(ta:TE):TE:=λσ H Q=>ta σ H λx H1=>r x H1 Q
def rI(C:Int->Int->Prop)(g:Int->Int->V):R2:=λx y H Q=>∃i j,x=.int i/\y=.int j/\C i j/\Q (g i j) H
def rI0(g:Int->Int->V):R2:=λx y H Q=>∃i j,x=.int i/\y=.int j/\Q (g i j) H
def rU(g:Int->V):V->Hp->VK->Prop:=λx H Q=>∃i,x=.int i/\Q (g i) H
section
variable{X:Cx}{a b c:Expr}{ta tb tc:TE}{pos:Pos}
theorem B0(ha:PE X a ta)(hb:PE X b tb){pins:List (Addr×Obj)}{s:Shared}{σ:St}{H:Hp}{R:V->V->Hp->Prop}(I:Inv X pins σ H s)
  (h:ta σ H λx H1=>tb σ H1 λy H2=>R x y H2){Q:Value->Shared->Prop}{f:Value->Value->Sem Value}
  (hf:∀v u s2 x y H2,Inv X pins σ H2 s2->RelV x v->RelV y u->R x y H2->wpAny (model X.prog X.w) X.A (f v u) Q X.xe s2) :
  wpAny (model X.prog X.w) X.A (eval a X.env) (λv s₁=>wpAny (model X.prog X.w) X.A (eval b X.env) (λu s₂=>wpAny (model X.prog X.w) X.A (f v u) Q X.xe s₂) X.xe s₁) X.xe s:=by
 refine thn (ha pins s σ H _ I h) λv s1 ⟨x,H1,I1,r1,q1⟩=>?_
 refine thn (hb pins s1 σ H1 _ I1 q1) λu s2 ⟨y,H2,I2,r2,q2⟩=>?_
 exact hf v u s2 x y H2 I2 r1 r2 q2
theorem B1{op:Operator}{r:R2}(ho:OpR X (Ov op) r)(ha:PE X a ta)(hb:PE X b tb):PE X (.BinOp a op b pos) (tOp r ta tb):=by
 intro pins s σ H Q I h;exact wpAny_BinOp (B0 ha hb I h λv u s2 x y H2 I2 rx ry q=>ho pins s2 σ H2 x y v u Q I2 rx ry q)
theorem ze{op:UnaryOp}{r:V->Hp->VK->Prop}(ho:UnR X (unaryOp op) r)(ha:PE X a ta):PE X (.UnaryOp op a pos) (tUn r ta):=by
 intro pins s σ H Q I h;exact UnaryOp_ (thn (ha pins s σ H _ I h) λv s1 ⟨x,H1,I1,r1,q1⟩=>ho pins s1 σ H1 x v Q I1 r1 q1)
theorem opI{f:Value->Value->Sem Value}{C:Int->Int->Prop}{g:Int->Int->Int}
  (rule:∀(i j:Int) (t u:Tok) (s:Shared) (Q:Value->Shared->Prop) (E:Value->Shared->Prop),C i j->Q (.int (g i j) s.toks) { s with toks:=s.toks+1 }->wpAny (model X.prog X.w) X.A (f (.int i t) (.int j u)) Q E s) :
  OpR X f (rI C λi j=>.int (g i j)):=by
 intro pins s σ H x y v u Q I rx ry h;obtain⟨i,j,rfl,rfl,hc,q⟩:=h;obtain⟨t,rfl⟩:=rx;obtain⟨t',rfl⟩:=ry;exact rule i j t t' s _ _ hc ⟨.int (g i j),H,I.tok _,⟨_,rfl⟩,q⟩
theorem Bo{f:Value->Value->Sem Value}{g:Int->Int->Int}
  (rule:∀(i j:Int) (t u:Tok) (s:Shared) (Q:Value->Shared->Prop) (E:Value->Shared->Prop),Q (.int (g i j) s.toks) { s with toks:=s.toks+1 }->wpAny (model X.prog X.w) X.A (f (.int i t) (.int j u)) Q E s) :
  OpR X f (rI0 λi j=>.int (g i j)):=by
 intro pins s σ H x y v u Q I rx ry h;obtain⟨i,j,rfl,rfl,q⟩:=h;obtain⟨t,rfl⟩:=rx;obtain⟨t',rfl⟩:=ry;exact rule i j t t' s _ _ ⟨.int (g i j),H,I.tok _,⟨_,rfl⟩,q⟩
theorem Bp{f:Value->Value->Sem Value}{g:Int->Int->Bool}
  (rule:∀(i j:Int) (t u:Tok) (s:Shared) (Q:Value->Shared->Prop) (E:Value->Shared->Prop),Q (.bool (g i j)) s->wpAny (model X.prog X.w) X.A (f (.int i t) (.int j u)) Q E s) :
  OpR X f (rI0 λi j=>.bl (g i j)):=by
 intro pins s σ H x y v u Q I rx ry h;obtain⟨i,j,rfl,rfl,q⟩:=h;obtain⟨t,rfl⟩:=rx;obtain⟨t',rfl⟩:=ry;exact rule i j t t' s _ _ ⟨.bl (g i j),H,I,rfl,q⟩
def B2(i j:Int):Prop:=0<j/\j<1073741824
def Bq(i j:Int):Prop:=0<=j/\j<=1000000/\i.natAbs<2 ^ 64
def CMul(i j:Int):Prop:=(-(2 ^ 64)<i/\i<2 ^ 64)\/(-(2 ^ 64)<j/\j<2 ^ 64)
theorem CMul.ok{i j:Int}(h:CMul i j):IntMulOk i j:=by
 rcases h with⟨h1,h2⟩|⟨h1,h2⟩
 ·exact .of_left (intBits_le_64 h1 h2)
 ·exact .of_right (intBits_le_64 h1 h2)
theorem zf:OpR X (Ov .Add) (rI0 λi j=>.int (i+j)):=Bo λ_ _ _ _ _ _ _ q=>add_int q
theorem zg:OpR X (Ov .Sub) (rI0 λi j=>.int (i - j)):=Bo λ_ _ _ _ _ _ _ q=>sub_int q
theorem zh:OpR X (Ov .Mult) (rI CMul λi j=>.int (i*j)):=opI λ_ _ _ _ _ _ _ hc q=>mul_int q hc.ok
theorem zi:OpR X (Ov .Mod) (rI (λ_ j=>0<j) λi j=>.int (i % j)):=opI λi j _ _ _ _ _ hc q=>by
 have h1:(0:Int)<j:=hc;exact mod_int' ⋯ (by rw[Int.fmod_eq_emod_of_nonneg i ⋯];exact q)
theorem zj:OpR X (Ov .Pow) (rI Bq λi j=>.int (i ^ j.toNat)):=opI λ_ _ _ _ _ _ _ hc q=>pow_int_small hc.1 hc.2.1 hc.2.2 q
theorem vY:OpR X (OF .Add) (rI0 λi j=>.int (i+j)):=Bo λ_ _ _ _ _ _ _ q=>iadd_int q
theorem vZ:OpR X (OF .Sub) (rI0 λi j=>.int (i - j)):=Bo λ_ _ _ _ _ _ _ q=>isub_int q
theorem sq:OpR X (OF .FloorDiv) (rI B2 λi j=>.int (i / j)):=opI λi j _ _ _ _ _ hc q=>by
 have h1:(0:Int)<j:=hc.1;have h2:j<1073741824:=hc.2;exact ifloordiv_int ⋯ (by rw[IQ i ⋯];exact q) (.inl (PyProof.noPylong_small ⋯))
theorem unI{f:Value->Sem Value}{g:Int->Int}
  (rule:∀(i:Int) (t:Tok) (s:Shared) (Q:Value->Shared->Prop) (E:Value->Shared->Prop),Q (.int (g i) s.toks) { s with toks:=s.toks+1 }->wpAny (model X.prog X.w) X.A (f (.int i t)) Q E s) :
  UnR X f (rU λi=>.int (g i)):=by
 intro pins s σ H x v Q I rx h;obtain⟨i,rfl,q⟩:=h;obtain⟨t,rfl⟩:=rx;exact rule i t s _ _ ⟨.int (g i),H,I.tok _,⟨_,rfl⟩,q⟩
theorem uO:UnR X (unaryOp .USub) (rU λi=>.int (-i)):=unI λ_ _ _ _ _ q=>neg_int q
end
noncomputable def Dj:V->V->Bool
 | .non,.non=>true | .non,.int _=>true | .int _,.non=>true | .non,.bl _=>true | .bl _,.non=>true | .non,.str _=>true | .str _,.non=>true
 | .int _,.int _=>true | .bl _,.bl _=>true | .str _,.str _=>true | .byt _,.byt _=>true
 | .int _,.str _=>true | .str _,.int _=>true | .bl _,.str _=>true | .str _,.bl _=>true
 | _,_=>false
def rEq:R2:=λx y H Q=>Dj x y=true/\Q (.bl (decide (x=y))) H
def rNe:R2:=λx y H Q=>Dj x y=true/\Q (.bl (!decide (x=y))) H
theorem oG{i j:Int}:decide (V.int i=V.int j)=(i == j):=by
 rw[Hm];simp
theorem uP{i j:Bool}:decide (V.bl i=V.bl j)=(i == j):=by
 rw[Hm];simp
theorem oH{i j:Str}:decide (V.str i=V.str j)=(i == j):=by
 rw[Hm];simp
theorem oI{i j:Array UInt8}:decide (V.byt i=V.byt j)=(i.toList == j.toList):=by
 rw[Hm];cases i;cases j;simp
section
variable{X:Cx}{a b c:Expr}{ta tb tc:TE}{pos:Pos}
theorem a9{pins:List (Addr×Obj)}{σ:St}{H:Hp}{s:Shared}{Q:VK}{k k':Bool}(I:Inv X pins σ H s)(q:Q (.bl k) H)(e:k=k'):EP X pins σ Q (.bool k') s:=by
 subst e;exact⟨.bl k,H,I,rfl,q⟩
theorem B3:OpR X (Oo .Eq) rEq:=by
 intro pins s σ H x y v u Q I rx ry h;obtain⟨hs,q⟩:=h;cases x with
 | non=>
  cases rx;cases y with
  | non=>cases ry;exact Mj (a9 I q (by simp))
  | bl j=>cases ry;exact Ml (a9 I q (by simp))
  | int j=>obtain⟨t',rfl⟩:=ry;exact Mw (a9 I q (by simp))
  | str j=>obtain⟨t',rfl⟩:=ry;exact Mx (a9 I q (by simp))
  | _=>exact absurd (show false=true from hs) E9
 | bl i=>
  cases rx;cases y with
  | non=>cases ry;exact Mm (a9 I q (by simp))
  | bl j=>cases ry;exact eq_bool (a9 I q uP)
  | str j=>obtain⟨t',rfl⟩:=ry;exact Mn (a9 I q (by simp))
  | _=>exact absurd (show false=true from hs) E9
 | int i=>
  obtain⟨t,rfl⟩:=rx;cases y with
  | non=>cases ry;exact My (a9 I q (by simp))
  | int j=>obtain⟨t',rfl⟩:=ry;exact eq_int (a9 I q oG)
  | str j=>obtain⟨t',rfl⟩:=ry;exact Mz (a9 I q (by simp))
  | _=>exact absurd (show false=true from hs) E9
 | str i=>
  obtain⟨t,rfl⟩:=rx;cases y with
  | non=>cases ry;exact MA (a9 I q (by simp))
  | bl j=>cases ry;exact Mo (a9 I q (by simp))
  | int j=>obtain⟨t',rfl⟩:=ry;exact MB (a9 I q (by simp))
  | str j=>obtain⟨t',rfl⟩:=ry;exact eq_str (a9 I q oH)
  | _=>exact absurd (show false=true from hs) E9
 | byt i=>
  obtain⟨t,rfl⟩:=rx;cases y with
  | byt j=>obtain⟨t',rfl⟩:=ry;exact PySem.W.eq_bytes (a9 I q oI)
  | _=>exact absurd (show false=true from hs) E9
 | _=>cases y<;>exact absurd (show false=true from hs) E9
theorem B4:OpR X (Oo .NotEq) rNe:=by
 intro pins s σ H x y v u Q I rx ry h;obtain⟨hs,q⟩:=h;cases x with
 | non=>
  cases rx;cases y with
  | non=>cases ry;exact Mp (a9 I q (by simp))
  | bl j=>cases ry;exact Mq (a9 I q (by simp))
  | int j=>obtain⟨t',rfl⟩:=ry;exact MC (a9 I q (by simp))
  | str j=>obtain⟨t',rfl⟩:=ry;exact MD (a9 I q (by simp))
  | _=>exact absurd (show false=true from hs) E9
 | bl i=>
  cases rx;cases y with
  | non=>cases ry;exact Mr (a9 I q (by simp))
  | bl j=>cases ry;exact ne_bool (a9 I q (congrArg not uP))
  | str j=>obtain⟨t',rfl⟩:=ry;exact Ms (a9 I q (by simp))
  | _=>exact absurd (show false=true from hs) E9
 | int i=>
  obtain⟨t,rfl⟩:=rx;cases y with
  | non=>cases ry;exact ME (a9 I q (by simp))
  | int j=>obtain⟨t',rfl⟩:=ry;exact ne_int (a9 I q (congrArg not oG))
  | str j=>obtain⟨t',rfl⟩:=ry;exact MF (a9 I q (by simp))
  | _=>exact absurd (show false=true from hs) E9
 | str i=>
  obtain⟨t,rfl⟩:=rx;cases y with
  | non=>cases ry;exact MG (a9 I q (by simp))
  | bl j=>cases ry;exact Mt (a9 I q (by simp))
  | int j=>obtain⟨t',rfl⟩:=ry;exact MH (a9 I q (by simp))
  | str j=>obtain⟨t',rfl⟩:=ry;exact ne_str (a9 I q (congrArg not oH))
  | _=>exact absurd (show false=true from hs) E9
 | byt i=>
  obtain⟨t,rfl⟩:=rx;cases y with
  | byt j=>obtain⟨t',rfl⟩:=ry;exact PySem.W.ne_bytes (a9 I q (congrArg not oI))
  | _=>exact absurd (show false=true from hs) E9
 | _=>cases y<;>exact absurd (show false=true from hs) E9
theorem B5:OpR X (Oo .Lt) (rI0 λi j=>.bl (decide (i<j))):=Bp λ_ _ _ _ _ _ _ q=>lt_int q
theorem B6:OpR X (Oo .LtE) (rI0 λi j=>.bl (decide (i<=j))):=Bp λ_ _ _ _ _ _ _ q=>le_int q
theorem B7:OpR X (Oo .Gt) (rI0 λi j=>.bl (decide (j<i))):=Bp λ_ _ _ _ _ _ _ q=>gt_int q
theorem B8:OpR X (Oo .GtE) (rI0 λi j=>.bl (decide (j<=i))):=Bp λ_ _ _ _ _ _ _ q=>ge_int q
theorem zk:OpR X (Oo .Is) (λx y H Q=>y=.non/\Q (.bl (decide (x=.non))) H):=by
 intro pins s σ H x y v u Q I rx ry h;obtain⟨rfl,q⟩:=h;cases ry;refine is_none_gen (a9 I q ?_);cases x<;>first
  | (cases rx;rfl)
  | (obtain⟨t,rfl⟩:=rx;rfl)
theorem ax(b:Expr){op:CmpOp}(h:op≠.In:=by decide)(h2:op≠.NotIn:=by decide):OK op b=false:=by
 have e1:(op == CmpOp.In)=false:=by cases op<;>first|rfl|exact absurd rfl h
 have e2:(op == CmpOp.NotIn)=false:=by cases op<;>first|rfl|exact absurd rfl h2
 cases b<;>simp[OK,e1,e2]
theorem we{op:CmpOp}{r:R2}(ho:OpR X (Oo op) r)(ha:PE X a ta)(hb:PE X b tb)(hm:OK op b=false):PE X (.Compare a [op] [b] pos) (tOp r ta tb):=by
 intro pins s σ H Q I h;exact wpAny_Compare1 (B0 ha hb I h λv u s2 x y H2 I2 rx ry q=>ho pins s2 σ H2 x y v u Q I2 rx ry q) hm
def wg(t:TE):TT:=λσ H Q=>t σ H λx H'=>∃k,x=.bl k/\Q k H'
theorem wj{op:CmpOp}{r:R2}(ho:OpR X (Oo op) r)(ha:PE X a ta)(hb:PE X b tb)(hm:OK op b=false):PT X (.Compare a [op] [b] pos) (wg (tOp r ta tb)):=by
 intro pins s σ H Q I h;refine wpAny_isTrue_Compare1 (thn (ha pins s σ H _ I h) λv s1 ⟨x,H1,I1,r1,q1⟩=>thn (hb pins s1 σ H1 _ I1 q1) λu s2 ⟨y,H2,I2,r2,q2⟩=>
  thn (ho pins s2 σ H2 x y v u _ I2 r1 r2 q2) λc s3 ⟨z,H3,I3,r3,k,e,q3⟩=>?_) hm
 subst e;cases r3;exact Os ⟨H3,I3,q3⟩
def uQ(K:EG)(x:V)(H:Hp)(k:Bool):Prop:=
 match x with
 | .non=>k=false
 | .bl b=>k=b
 | .int i=>k=(i != 0)
 | .str y=>y.length<=sizeLine/\k=((y.length:Int) != 0)
 | .byt y=>y.size<=sizeLine/\k=((y.size:Int) != 0)
 | .ref p=>(∃xs,SqL K H p xs/\k=!xs.isEmpty)\/(∃xs,SqT K H p xs/\k=!xs.isEmpty)\/∃kvs,H p=some (.dK kvs)/\k=!kvs.isEmpty
 | _=>False
theorem nE{κ:Type}{kvs:List (κ×V)}{vs:List (κ×Value)}(r:KV kvs vs):(!vs.isEmpty)=!kvs.isEmpty:=by
 cases r<;>rfl
theorem iU{xs:List V}{its:List Value}(r:Vals xs its):(!its.toArray.isEmpty)=!xs.isEmpty:=by
 cases r<;>simp
theorem gH:(sizeLine:Nat)<2 ^ 63:=by rw[Oj];decide
theorem uR:D5 X (λx H Q=>∃k,uQ X.K x H k/\Q k H):=by
 intro pins s σ H x v Q I rx h;obtain⟨k,e,q⟩:=h;have hl:=gH;have hs:sizeLine=16777216:=Oj;cases x with
 | non=>
  cases rx;have e':k=false:=e;subst e';exact truthy_none ⟨H,I,q⟩
 | bl b=>
  cases rx;have e':k=b:=e;subst e';exact Os ⟨H,I,q⟩
 | int i=>
  obtain⟨t,rfl⟩:=rx;have e':k=(i != 0):=e;subst e';exact PySem.P.truthy_int ⟨H,I,q⟩
 | str y=>
  obtain⟨t,rfl⟩:=rx;obtain⟨hy,e'⟩:y.length<=sizeLine/\k=((y.length:Int) != 0):=e;subst e';exact PySem.P.truthy_str ⋯ ⟨H,I.tok _,q⟩
 | byt y=>
  obtain⟨t,rfl⟩:=rx;obtain⟨hy,e'⟩:y.size<=sizeLine/\k=((y.size:Int) != 0):=e;subst e';exact PySem.W.truthy_bytes ⋯ ⟨H,I.tok _,q⟩
 | ref p=>
  cases rx;have e':(∃xs,SqL X.K H p xs/\k=!xs.isEmpty)\/(∃xs,SqT X.K H p xs/\k=!xs.isEmpty)\/∃kvs,H p=some (.dK kvs)/\k=!kvs.isEmpty:=e
  rcases e' with⟨xs,hx,e'⟩|⟨xs,hx,e'⟩|⟨kvs,hx,e'⟩
  ·subst e'
   obtain⟨its,r,pl,hz⟩:=I.list hx;have hlen:=r.length;exact wpAny_truthy_list pl.isList (by simp only[EW];lia) ⟨H,I.tok _,by rw[iU r];exact q⟩
  ·subst e'
   obtain⟨its,r,pl,hz⟩:=I.tuple hx;have hlen:=r.length;exact truthy_tuple pl (by simp only[EW];lia) ⟨H,I.tok _,by rw[iU r];exact q⟩
  ·subst e'
   obtain⟨hz,hS,vs,r,m⟩:kvs.length<=sizeLine/\(p == sysModules)=false/\∃vs,KV kvs vs/\s.heap.DictOf (kX X.prog X.w) p vs:=I.hok p _ hx
   have hlen:kvs.length=vs.length:=Md r;exact wpAny_truthy_dict hS m ⋯ ⟨H,I.tok _,by rw[nE r];exact q⟩
 | _=>exact(show False from e).elim
theorem sr(ha:PE X a ta)(he:∀whole,isTrue a X.env whole=(do let v <-whole;OH a.pos;OI [v] (truthy v))):
  PT X a (λσ H Q=>ta σ H λx H'=>∃k,uQ X.K x H' k/\Q k H'):=by
 intro pins s σ H Q I h;exact isTrue_plain (thn (ha pins s σ H _ I h) λv s1 ⟨x,H1,I1,r1,q1⟩=>uR pins s1 σ H1 x v Q I1 r1 q1) (he _)
theorem nF:OpR X (Ov .Add) (λx y H Q=>∃i j,x=.str i/\y=.str j/\i.length+j.length<=sizeLine/\Q (.str (i++j)) H):=by
 intro pins s σ H x y v u Q I rx ry h;obtain⟨i,j,rfl,rfl,hz,q⟩:=h;obtain⟨t,rfl⟩:=rx;obtain⟨t',rfl⟩:=ry;exact add_str (λt' tk=>⟨.str (i++j),H,I.tok _,⟨_,rfl⟩,q⟩) hz
theorem cG{x:V}{us:List Value}(r:Vals [x] us):∃u,us=[u]/\RelV x u:=by
 cases r with
 | cons r1 r2=>cases r2;exact⟨_,rfl,r1⟩
theorem zl{x y:V}{us:List Value}(r:Vals [x,y] us):∃u w',us=[u,w']/\RelV x u/\RelV y w':=by
 cases r with
 | cons r1 r2=>
  cases r2 with
  | cons r3 r4=>cases r4;exact⟨_,_,rfl,r1,r3⟩
theorem su:cb X (.builtin "abs") (λxs H Q=>∃i,xs=[.int i]/\Q (.int (if i<0 then -i else i)) H):=by
 intro pins s σ H xs us Q I r h;obtain⟨i,rfl,q⟩:=h;obtain⟨u,rfl,t,rfl⟩:=cG r;exact call_abs_int λu tk=>⟨.int (if i<0 then -i else i),H,I.tok _,⟨_,rfl⟩,q⟩
theorem oJ (hc:X.calm=true):cb X (.builtin "min") (λxs H Q=>∃i j,xs=[.int i,.int j]/\Q (.int (if j<i then j else i)) H):=by
 intro pins s σ H xs us Q I r h;obtain⟨i,j,rfl,q⟩:=h;obtain⟨u,w',rfl,⟨t,rfl⟩,⟨t',rfl⟩⟩:=zl r;refine min_two_ints (I.ok.hd hc) λh' tk k=>⟨_,H,I.kept k,?_,q⟩
 by_cases hj:j<i
 ·rw[if_pos hj,if_pos hj];exact⟨_,rfl⟩
 ·rw[if_neg hj,if_neg hj];exact⟨_,rfl⟩
theorem oK:cb X (.type "int") (λxs H Q=>(∃i,xs=[.int i]/\Q (.int i) H)\/∃k,xs=[.bl k]/\Q (.int (if k then 1 else 0)) H):=by
 intro pins s σ H xs us Q I r h;rcases h with⟨i,rfl,q⟩|⟨k,rfl,q⟩
 ·obtain⟨u,rfl,t,rfl⟩:=cG r
  exact call_int_int ⟨.int i,H,I,⟨_,rfl⟩,q⟩
 ·obtain⟨u,rfl,r1⟩:=cG r
  cases r1;exact call_int_bool ⟨.int (if k then 1 else 0),H,I.tok _,⟨_,rfl⟩,q⟩
theorem jU:cb X (.type "str") (λxs H Q=>∃i,xs=[.int i]/\i.natAbs.log2<1920/\Q (.str (toString i)) H):=by
 intro pins s σ H xs us Q I r h;obtain⟨i,rfl,hz,q⟩:=h;obtain⟨u,rfl,t,rfl⟩:=cG r;exact PySem.P.str_of_int hz ⟨.str _,H,I.tok _,⟨_,rfl⟩,q⟩
theorem sv:cb X (.builtin "ord") (λxs H Q=>∃x,xs=[.str x]/\x.length=1/\Q (.int (x.cps.getD 0 0:Nat)) H):=by
 intro pins s σ H xs us Q I r h;obtain⟨x,rfl,hz,q⟩:=h;obtain⟨u,rfl,t,rfl⟩:=cG r;exact ord_of_one hz ⟨.int _,H,I.tok _,⟨_,rfl⟩,q⟩
end
structure ObjM (h:Heap) (x dx C:Addr) (mA:Str->Option Value):Prop where
 obj:h.get? x=some (Gi C dx)
 ns:h.Ns1 dx mA
 ne:dx≠x
theorem oM{h:Heap}{dx:Addr}{mA:Str->Option Value}(n:h.Ns1 dx mA):∃od,h.get? dx=some od/\∀name,IC name od=some (mA name):=by
 obtain⟨o,es,ep,ho,hd,hk,_,hm⟩:=n;refine⟨o,ho,λname=>?_⟩;have e:=hm name;unfold nsFind findBy at e;rw[<-Array.find?_toList]at e;unfold IC;rw[hd];dsimp only;split
 ·rename_i y q
  rw[q]at e;exact congrArg some e
 ·rename_i q
  rw[q]at e;have a:es.toList.any (·.refKey)=false:=by
   rw[List.any_eq_false];intro y hy;obtain⟨z,t,hkey⟩:=hk y (JU.mp hy);simp[NP,hkey]
  have a':¬es.toList.any (·.refKey)=true:=by rw[a];exact E9
  rw[if_neg a'];exact congrArg some e
theorem ObjM.look{h:Heap}{x dx C:Addr}{mA:Str->Option Value}(I:ObjM h x dx C mA):∃od,PySem.W.InstAt h x (Gi C dx) C (some od)/\∀name,IC name od=some (mA name):=
 let⟨od,ho,hl⟩:=oM I.ns
 ⟨od,⟨I.obj,rfl,rfl,ho⟩,hl⟩
section
variable{prog:Program}{w:World}{A:Around}{E:Value->Shared->Prop}{s:Shared}{K:EG}{x dx C f:Addr}{mA:Str->Option Value}{name:Str}{v:Value}
theorem wk{expr:Bool}{Q:Value->Shared->Prop}(X:K.In s.heap)(I:ObjM s.heap x dx C mA)(hg:GM K C name=true)(hh:G0 K C=true)
  (ha:Fm K (.ref C) name=some none) (hv:mA name=some v) (hv':Lb v=true) (h:Q v { s with toks:=s.toks+1 }) :
  wpAny (model prog w) A (getAttr (.ref x) name expr) Q E s:=by
 obtain⟨od,J,hl⟩:=I.look;exact PySem.W.get_value X J (Iz hg).1 (PySem.W.findObj_own hh ha rfl (by rw[hl,hv])) hv' h
theorem sy{pl:Sem Bool}{Q:Value×List Value->Shared->Prop}(X:K.In s.heap)(I:ObjM s.heap x dx C mA)(hg:GM K C name=true)
  (hf:Fm K (.ref C) name=some (some (.ref f))) (ht:Gz K (.ref f)=true) (hv:mA name=none) (h:Q (.ref f,[.ref x]) s) :
  wpAny (model prog w) A (getMethod (.ref x) name pl) Q E s:=by
 obtain⟨od,J,hl⟩:=I.look;exact PySem.W.method_fn X J (Iz hg).1 (Iz hg).2 hf (beq_iff_eq.mp ht) (by show(IC name od).map (·.isSome)=some false;rw[hl,hv];rfl) h
theorem wm{ns:List Str}{Q:Unit->Shared->Prop}(X:K.In s.heap)(I:ObjM s.heap x dx C mA)
  (hs:Fm K (.ref C) "__setattr__" = some (some (.builtin "object.__setattr__"))) (hp:HL K C=true) (ht:Jz K C name=some none) (hh:G0 K C=true)
  (hw:Kh mA ns) (hsz:ns.length<=sizeLine)
  (h:∀h',ObjM h' x dx C (λy=>if y=name then some v else mA y)->Ki dx s.heap h'->Q () { s with heap:=h',toks:=s.toks+2 }) :
  wpAny (model prog w) A (setAttr (.ref x) name v) Q E s:=by
 obtain⟨od,J,hl⟩:=I.look;refine PySem.W.set_plain X J hs (PySem.W.osa_open (s:={ s with toks:=s.toks+1 }) (r:=none) X J hp ht λb=>?_);obtain⟨cd,hc,hd'⟩:=PySem.W.any_some hh;have hx:s.heap.get? x=some ⟨.ref C,some dx,.plain,#[]⟩:=I.obj;refine Oh (Oi (Oh (Oh (wpAny_loadPart hx (Oh (NF (s:={ s with toks:=s.toks+1 }) (PySem.W.looks_clsIn X hc) ?_))))));rw[hd'];refine Oi (a:=some dx) (Oh (Oi (Oh ?_)));refine wpAny_nsSet1 (s:={ s with toks:=s.toks+1 }) I.ns λh' hn2 hs2=>?_
 obtain⟨oD,esD,epD,hoD,hdD,hcD⟩:=hn2.count (NM name v hw);refine Oh (wpAny_lookBehind hoD (by rw[hdD];exact pastItsLine_dict (FB hcD (by rw[Fk];lia))) ?_);exact Oi (h _ ⟨(hs2.2 _ (E7 I.ne)).trans I.obj,hn2,I.ne⟩ hs2)
theorem sC{R:Result->Shared->Prop}{vs:List Value}{kw:List (Str×Value)}(X:K.In s.heap)(hm:Ih K C=true)
  (hi:Fm K (.ref C) "__init__" = some (some (.ref f))) (hf:PySem.W.typeIn K (.ref f)=some (.type "function"))
  (h:codeAny (model prog w) (A.under (.builtin "type.__call__" ⟨.ref C::vs,kw⟩)) (.call (.ref f) ⟨.ref (s.heap.objs.size+1)::vs,kw⟩) (PySem.W.InitBack (s.heap.objs.size+1) R)
   { s with heap:=(s.heap.push F0).push (Gi C s.heap.objs.size) }) :
  codeAny (model prog w) A (.call (.ref C) ⟨vs,kw⟩) R s:=by
 obtain⟨hh,g,d,t,os⟩:=s;exact PySem.W.make_core (PySem.W.makes_of X hm) (PySem.W.looks_findIn X hi) (λself=>PySem.W.bind_fn X self hf) (.inl rfl) h
end
noncomputable def bI(f:Str)(v:V):List (Str×V)->List (Str×V)
 | []=>[(f,v)]
 | (g,x)::r=>if g=f then(g,v)::r else(g,x)::bI f v r
theorem gI(f g:Str)(v:V):∀fs:List (Str×V),(bI f v fs).lookup g=if g=f then some v else fs.lookup g
 | []=>by
  show Gc g [(f,v)]=_
  by_cases h:g=f
  ·have hb:(g == f)=true:=beq_iff_eq.mpr h
   simp only[Gc,hb,if_pos h]
  ·have hb:(g == f)=false:=beq_eq_false_iff_ne.mpr h
   simp only[Gc,hb,if_neg h]
 | (k,x)::r=>by
  have ih:=gI f g v r;rw[show bI f v ((k,x)::r)=(if k=f then(k,v)::r else(k,x)::bI f v r)from rfl];by_cases hk:k=f
  ·rw[if_pos hk]
   by_cases h:g=k
   ·have hb:(g == k)=true:=beq_iff_eq.mpr h
    simp only[Gc,hb,if_pos (h.trans hk)]
   ·have hb:(g == k)=false:=beq_eq_false_iff_ne.mpr h
    simp only[Gc,hb,if_neg (λe:g=f=>h (e.trans hk.symm))]
  ·rw[if_neg hk]
   by_cases h:g=k
   ·have hb:(g == k)=true:=beq_iff_eq.mpr h
    simp only[Gc,hb,if_neg (λe:g=f=>hk (h.symm.trans e))]
   ·have hb:(g == k)=false:=beq_eq_false_iff_ne.mpr h
    simp only[Gc,hb];exact ih
theorem gJ(f:Str)(v:V):∀fs:List (Str×V),f∈(bI f v fs).map (·.1)/\∀g,g∈fs.map (·.1)->g∈(bI f v fs).map (·.1)
 | []=>⟨by simp[bI],λg h=>by simp at h⟩
 | (k,x)::r=>by
  obtain⟨i1,i2⟩:=gJ f v r;rw[show bI f v ((k,x)::r)=(if k=f then(k,v)::r else(k,x)::bI f v r)from rfl];by_cases hk:k=f
  ·rw[if_pos hk]
   subst hk;exact⟨by simp,λg h=>by simpa using h⟩
  ·rw[if_neg hk]
   refine⟨?_,λg h=>?_⟩
   ·rw[Fw]
    exact E4 _ i1
   ·rw[Fw]at h ⊢
    rcases EO.mp h with e|e
    ·exact EO.mpr (.inl e)
    ·exact E4 _ (i2 g e)
theorem gK(f:Str)(v:V):∀fs:List (Str×V),(bI f v fs).length<=fs.length+1
 | []=>by simp[bI]
 | (k,x)::r=>by
  have ih:=gK f v r;rw[show bI f v ((k,x)::r)=(if k=f then(k,v)::r else(k,x)::bI f v r)from rfl];by_cases hk:k=f
  ·rw[if_pos hk,Fk,Fk];lia
  ·rw[if_neg hk,Fk,Fk];lia
theorem RelO.some_of{v:V}{o:Option Value}(r:RelO (some v) o):∃u,o=some u/\RelV v u:=by
 cases o with
 | none=>exact(show False from r).elim
 | some u=>exact⟨u,rfl,r⟩
theorem RelO.none_of{o:Option Value}(r:RelO none o):o=none:=by
 cases o with
 | none=>rfl
 | some u=>exact(show False from r).elim
theorem oN{v:V}{u:Value}(r:RelV v u):Lb u=true:=by
 cases v with
 | non=>cases(show u=Ft from r);rfl
 | bl b=>cases(show u=Ja b from r);rfl
 | int i=>obtain⟨t,e⟩:=(show ∃t,u=G9 i t from r);cases e;rfl
 | str x=>obtain⟨t,e⟩:=(show ∃t,u=GU x t from r);cases e;rfl
 | byt b=>obtain⟨t,e⟩:=(show ∃t,u=MS b t from r);cases e;rfl
 | flt b=>obtain⟨t,e⟩:=(show ∃t,u=K5 b t from r);cases e;rfl
 | ref a=>cases(show u=Fi a from r);rfl
 | ty n=>cases(show u=Gh n from r);rfl
section
variable{P:Program}{w:World}{H H':Hp}{h h':Heap}{a C dx:Addr}{fs fs':List (Str×V)}
theorem jd(hok:HOk P w H h)(e:H a=some (.ins C dx fs)):∃mA,ObjM h a dx C mA/\(∀f,RelO (fs.lookup f) (mA f))/\Kh mA (fs.map (·.1))/\fs.length<=1000/\H dx=some (.own a):=by
 obtain⟨d,z,ne,ob,mA,n,r,q⟩:=(show ObjOk P w H h a (.ins C dx fs)from hok a _ e);exact⟨mA,⟨ob,n,ne⟩,r,q,z,d⟩
end
structure Cls (K:EG) (C:Addr):Prop where
 pg:GM K C GA=true
 hd:G0 K C=true
 po:HL K C=true
 sa:Fm K (.ref C) "__setattr__" = some (some (.builtin "object.__setattr__"))
theorem Cls.get{K:EG}{C:Addr}(c:Cls K C)(f:Str):GM K C f=true:=c.pg
def NoAttr(K:EG)(C:Addr)(f:Str):Prop:=Fm K (.ref C) f=some none
theorem NoAttr.taker{K:EG}{C:Addr}{f:Str}(n:NoAttr K C f):Jz K C f=some none:=by
 unfold Jz;rw[show Fm K (.ref C) f=some none from n];rfl
structure Meth (K:EG) (C:Addr) (m:Str) (f:Addr):Prop where
 at_:Fm K (.ref C) m=some (some (.ref f))
 fn:Gz K (.ref f)=true
 kp:FZ K (.ref f)=true
section
variable{X:Cx}{pins:List (Addr×Obj)}{σ:St}{H:Hp}{s:Shared}{a C dx:Addr}{fs:List (Str×V)}{f:Str}{v:V}{A:Around}{E:Value->Shared->Prop}
theorem iV{b:Bool}{Q:Value->Shared->Prop}(I:Inv X pins σ H s)(e:H a=some (.ins C dx fs))(c:Cls X.K C)(n:NoAttr X.K C f)(l:fs.lookup f=some v)
  (h:∀u s',Inv X pins σ H s'->RelV v u->Q u s'):wpAny (model X.prog X.w) A (getAttr (.ref a) f b) Q E s:=by
 obtain⟨mA,O,r,_,_,_⟩:=jd I.hok e;obtain⟨u,hu,ru⟩:=RelO.some_of (v:=v) (o:=mA f) (by rw[<-l];exact r f);exact wk I.kIn O (c.get f) c.hd n hu (oN ru) (h u _ (I.tok _) ru)
theorem nG{m:Str}{g:Addr}{pl:Sem Bool}{Q:Value×List Value->Shared->Prop}(I:Inv X pins σ H s)(e:H a=some (.ins C dx fs))(c:Cls X.K C)(k:Meth X.K C m g)(l:fs.lookup m=none)
  (h:Q (.ref g,[.ref a]) s):wpAny (model X.prog X.w) A (getMethod (.ref a) m pl) Q E s:=by
 obtain⟨mA,O,r,_,_,_⟩:=jd I.hok e;have hn:mA m=none:=RelO.none_of (by rw[<-l];exact r m);exact sy I.kIn O (c.get m) k.at_ k.fn hn h
theorem iW{y:V}{u:Value}{Q:Unit->Shared->Prop}(I:Inv X pins σ H s)(e:H a=some (.ins C dx fs))(c:Cls X.K C)(n:NoAttr X.K C f)(hl:fs.length<1000)(ry:RelV y u)
  (h:∀s',Inv X pins σ (upd H a (.ins C dx (bI f y fs))) s'->Q () s'):wpAny (model X.prog X.w) A (setAttr (.ref a) f u) Q E s:=by
 obtain⟨mA,O,r,wi,_,ho⟩:=jd I.hok e;have hz:(fs.map (·.1)).length<=sizeLine:=by rw[EE,Oj];lia
 refine wm I.kIn O c.sa c.po n.taker c.hd wi hz λh' O' sb=>h _ ?_
 have hd:∃o,h'.get? dx=some o:=let⟨o,_,_,e',_⟩:=O'.ns;⟨o,e'⟩
 refine I.write (x:=a) (e:=dx) (by rw[e];exact EX) (.inr ho) (λb q hb z=>(sb.2 b hb).trans z) hd ?_;refine⟨by rw[ak O.ne];exact ho,?_,O.ne,O'.obj,_,O'.ns,λg=>?_,λg hg=>?_⟩
 ·have:=gK f y fs;lia
 ·show RelO ((bI f y fs).lookup g) (if g=f then some u else mA g)
  rw[gI];by_cases q:g=f
  ·rw[if_pos q,if_pos q];exact ry
  ·rw[if_neg q,if_neg q];exact r g
 ·by_cases q:g=f
  ·rw[q];exact(gJ f y fs).1
  ·refine(gJ f y fs).2 g (wi g λz=>hg ?_)
   show(if g=f then some u else mA g)=none
   rw[if_neg q];exact z
theorem Inv.made(I:Inv X pins σ H s):Inv X pins σ (upd (upd H s.heap.objs.size (.own (s.heap.objs.size+1))) (s.heap.objs.size+1) (.ins C s.heap.objs.size []))
  { s with heap:=(s.heap.push F0).push (Gi C s.heap.objs.size) }:=by
 have e1:(s.heap.push F0).get? s.heap.objs.size=some F0:=E5 s.heap rfl;have e2:((s.heap.push F0).push (Gi C s.heap.objs.size)).get? (s.heap.objs.size+1)=some (Gi C s.heap.objs.size):=by
  have:=E5 (s.heap.push F0) (o:=Gi C s.heap.objs.size) rfl
  rwa [Ht]at this
 have e3:(s.heap.push F0).Ns s.heap.objs.size (λ_=>none):=⟨F0,#[],_,e1,rfl,(λe he=>absurd he (by simp)),λ_=>rfl⟩;have I1:=I.laid (a:=s.heap.objs.size) (o:=.own (s.heap.objs.size+1)) (h':=s.heap.push F0) (t':=s.toks) (λb u q=>EJ _ q) (EI _) ⟨_,e1⟩;refine I1.laid (a:=s.heap.objs.size+1) (o:=.ins C s.heap.objs.size []) (t':=s.toks) (λb u q=>EJ _ q) (GB (Ht _ _)) ?_;have ne:s.heap.objs.size≠s.heap.objs.size+1:=Fc (Jf _);refine⟨by rw[ak ne,ae],EU _,ne,e2,λ_=>none,(NN e3).at λo q=>EJ _ q,λ_=>EX,λy hy=>absurd rfl hy⟩
theorem wo{prog:Program}{w:World}{env:Env}{e:Expr}{f:Str}{pos:Pos}{s:Shared}{Q:Value->Shared->Prop}(hb:Oq e f env (eval e env)=eval e env)
  (h:wpAny (model prog w) A (eval e env) (λo s₁=>wpAny (model prog w) A (getAttr o f true) Q E s₁) E s):wpAny (model prog w) A (eval (.Attribute e f pos) env) Q E s:=
 Attribute_any_ h (by rw[arm_eval_Attribute,hb])
end
def B9(K:EG)(ta:TE)(f:Str):TE:=λσ H Q=>ta σ H λx H1=>∃a C dx fs v,x=.ref a/\H1 a=some (.ins C dx fs)/\Cls K C/\NoAttr K C f/\fs.lookup f=some v/\Q v H1
def Ca(K:EG)(ta tv:TE)(f:Str):TS:=λD σ H=>tv σ H λy H1=>ta σ H1 λx H2=>∃a C dx fs,x=.ref a/\H2 a=some (.ins C dx fs)/\Cls K C/\NoAttr K C f/\fs.length<1000/\
 D.nx σ (upd H2 a (.ins C dx (bI f y fs)))
def D6(X:Cx)(op:Operator)(rd:V->V->Hp->VK->Prop):Prop:=
 ∀(pins:List (Addr×Obj)) (s:Shared) (σ:St) (H:Hp) (x y:V) (u v:Value) (Q:VK),Inv X pins σ H s->RelV x u->RelV y v->rd x y H Q->wpAny (model X.prog X.w) X.A (OF op u v) (EP X pins σ Q) X.xe s
def k6(K:EG)(ta tv:TE)(rd:V->V->Hp->VK->Prop)(f:Str):TS:=λD σ H=>ta σ H λx H1=>∃a C dx fs v,x=.ref a/\H1 a=some (.ins C dx fs)/\Cls K C/\NoAttr K C f/\fs.lookup f=some v/\
 tv σ H1 λy H2=>rd v y H2 λz H3=>∃dx' fs',H3 a=some (.ins C dx' fs')/\fs'.length<1000/\D.nx σ (upd H3 a (.ins C dx' (bI f z fs')))
section
variable{X:Cx}{o e value:Expr}{f:Str}{pos pos' tpos:Pos}{ta tv:TE}
theorem zm(he:PE X e ta)(hb:Oq e f X.env (eval e X.env)=eval e X.env):PE X (.Attribute e f pos) (B9 X.K ta f):=by
 intro pins s σ H Q I h;refine wo hb (thn (he pins s σ H _ I h) λu s1 ⟨x,H1,I1,rx,a,C,dx,fs,v,ex,ea,c,n,l,q⟩=>?_);subst ex;obtain rfl:u=Fi a:=rx;exact iV I1 ea c n l λu' s2 I2 ru=>⟨v,H1,I2,ru,q⟩
theorem zo(ha:PE X o ta)(hv:PE X value tv)(hs:OC value (some (.Attribute o f pos')) pos.line X.env=pure false):PS X (.Assign [.Attribute o f pos'] value pos) (Ca X.K ta tv f):=by
 intro pins s σ H D I h;refine plainObj_wpAny_Assign_Attribute (thn (hv pins s σ H _ I h) λu s1 ⟨y,H1,I1,ry,q⟩=>thn (ha pins s1 σ H1 _ I1 q) λov s2 ⟨x,H2,I2,rx,a,C,dx,fs,ex,ea,c,n,l,q2⟩=>?_) hs;subst ex;obtain rfl:ov=Fi a:=rx;exact iW I2 ea c n l ry λs3 I3=>⟨σ,_,I3,q2⟩
theorem oO{op:Operator}{rd:V->V->Hp->VK->Prop}(ha:PE X o ta)(hv:PE X value tv)(hop:D6 X op rd):PS X (.AugAssign (.Attribute o f tpos) op value pos) (k6 X.K ta tv rd f):=by
 intro pins s σ H D I h;refine wpAny_AugAssign_AttributeAny (thn (ha pins s σ H _ I h) λov s1 ⟨x,H1,I1,rx,a,C,dx,fs,v,ex,ea,c,n,l,q⟩=>?_);subst ex;obtain rfl:ov=Fi a:=rx;refine iV I1 ea c n l λu s2 I2 ru=>thn (hv pins s2 σ H1 _ I2 q) λw3 s3 ⟨y,H2,I3,ry,q3⟩=>thn (hop pins s3 σ H2 v y u w3 _ I3 ru ry q3) λw4 s4 ⟨z,H3,I4,rz,dx',fs',ea',l',q4⟩=>?_
 exact iW I4 ea' c n l' rz λs5 I5=>⟨σ,_,I5,q4⟩
end
section
variable{X:Cx}{pins:List (Addr×Obj)}{σ:St}{H:Hp}{s:Shared}{A:Around}{E:Value->Shared->Prop}{Q:Value->Shared->Prop}{c:Value}{b:Bool}
inductive TyOf (K:EG) (H:Hp):V->Value->Prop where
 | non:TyOf K H .non (.type "NoneType")
 | bl (x:Bool):TyOf K H (.bl x) (.type "bool")
 | int (i:Int):TyOf K H (.int i) (.type "int")
 | str (x:Str):TyOf K H (.str x) (.type "str")
 | flt (x:UInt64):TyOf K H (.flt x) (.type "float")
 | lst {a:Addr}{xs:List V}(e:H a=some (.lst xs)):TyOf K H (.ref a) (.type "list")
 | frz {a:Addr}{o:Obj}{xs:List V}(e:H a=some (.frz o (.lst xs))):TyOf K H (.ref a) (.type "list")
 | tup {a:Addr}{xs:List V}(e:H a=some (.tup xs)):TyOf K H (.ref a) (.type "tuple")
 | dK {a:Addr}{kvs:List (Key×V)}(e:H a=some (.dK kvs)):TyOf K H (.ref a) (.type "dict")
 | dT {a:Addr}{kvs:List (List Key×V)}(e:H a=some (.dT kvs)):TyOf K H (.ref a) (.type "dict")
 | ins {a C dx:Addr}{fs:List (Str×V)}(e:H a=some (.ins C dx fs)) (cl:Cls K C) (ha:Fm K (.ref C) "__class__" = some (some (.builtin "object.__class__")))
   (hn:PySem.W.specialIn K (.builtin "object.__class__") "__get__" = some (some (.builtin "getset_descriptor.__get__"))) (htk:PySem.W.takesIn K (.builtin "object.__class__")=some true)
   (hm:PySem.W.mroIn K C (.type "object")=some true):TyOf K H (.ref a) (.ref C)
theorem oP{x:V}{u t:Value}(I:Inv X pins σ H s)(rx:RelV x u)(ty:TyOf X.K H x t)(e:G5 X.K t c=some b)(h:∀tk,Q (.bool b) { s with toks:=tk }):
  wpAny (model X.prog X.w) A (call (.builtin "isinstance") [u,c]) Q E s:=by
 cases ty with
 | non=>cases(show u=Ft from rx);exact FS IX I.kIn EX e (λz=>nomatch z) h
 | bl y=>cases(show u=Ja y from rx);exact FS KN I.kIn EX e (λz=>nomatch z) h
 | int i=>obtain⟨t,q⟩:=(show ∃t,u=G9 i t from rx);cases q;exact FS Jg I.kIn EX e (λz=>nomatch z) h
 | str y=>obtain⟨t,q⟩:=(show ∃t,u=GU y t from rx);cases q;exact FS Lc I.kIn EX e (λz=>nomatch z) h
 | flt y=>obtain⟨t,q⟩:=(show ∃t,u=K5 y t from rx);cases q;exact FS PySem.W.kitx_float I.kIn EX e (λz=>nomatch z) h
 | @lst a xs ea=>
  cases(show u=Fi a from rx);obtain⟨_,_,n,_,h1⟩:=(show ObjOk X.prog X.w H s.heap a (.lst xs)from I.hok a _ ea);exact FS HN I.kIn ⟨_,h1,rfl⟩ e (λz=>nomatch z) h
 | @frz a ob xs ea=>
  cases(show u=Fi a from rx);obtain⟨_,_,_,n,_,h1⟩:=(show ObjOk X.prog X.w H s.heap a (.frz ob (.lst xs))from I.hok a _ ea);exact FS HN I.kIn ⟨_,h1,rfl⟩ e (λz=>nomatch z) h
 | @tup a xs ea=>
  cases(show u=Fi a from rx);obtain⟨_,_,_,p⟩:=(show ObjOk X.prog X.w H s.heap a (.tup xs)from I.hok a _ ea);obtain⟨o,h1,h2,_⟩:=p;exact FS IF I.kIn ⟨o,h1,h2⟩ e (λz=>nomatch z) h
 | @dK a kvs ea=>
  cases(show u=Fi a from rx);obtain⟨_,_,vs,_,p⟩:=(show ObjOk X.prog X.w H s.heap a (.dK kvs)from I.hok a _ ea);obtain⟨o,es,ep,h1,h2,_⟩:=p;exact FS KO I.kIn ⟨o,h1,h2.1⟩ e (λz=>nomatch z) h
 | @dT a kvs ea=>
  cases(show u=Fi a from rx);obtain⟨_,_,xs,_,o,es,ep,h1,h2,_⟩:=(show ObjOk X.prog X.w H s.heap a (.dT kvs)from I.hok a _ ea);exact FS KO I.kIn ⟨o,h1,h2.1⟩ e (λz=>nomatch z) h
 | @ins a C dx fs ea cl ha hn htk hm=>
  cases(show u=Fi a from rx);obtain⟨mA,O,_⟩:=jd I.hok ea;obtain⟨od,J,_⟩:=O.look;exact FS (PySem.W.kitx_own (cl.get _) cl.hd ha hn htk hm) I.kIn J e (λz=>nomatch z) h
end
structure Room (k:Nat) (A:Around):Prop where
 hd:A.handled=none
 dp:A.depth+3*k+5<recursionLimit
 un:A.units+16*k+200<cLine
 gd:A.guards=some []
theorem Room.mono{j k:Nat}{A:Around}(r:Room k A)(h:j<=k):Room j A:=⟨r.hd,by have:=r.dp;lia,by have:=r.un;lia,r.gd⟩
theorem Room.deeper{k:Nat}{A:Around}(r:Room (k+1) A)(env:Env):Room k (A.deeper env):=
 ⟨r.hd,by have:=r.dp;show A.depth+1+3*k+5<_;lia,by have:=r.un;show A.units+3+16*k+200<_;lia,r.gd⟩
theorem nH {A:Around}{C:Addr}{us:List Value}{kw:List (Str×Value)}:(A.under (.builtin "type.__call__" ⟨.ref C::us,kw⟩)).depth=A.depth+1:=by
 first|rfl|simp[Jh,Code.weight,Code.isCreation,MI,Code.isCaller,MX,Kk,guardIds]
theorem nI {A:Around}{C:Addr}{us:List Value}{kw:List (Str×Value)}:(A.under (.builtin "type.__call__" ⟨.ref C::us,kw⟩)).units=A.units+1:=by
 first|rfl|simp[Jh,Code.cUnits,MX,Kk]
theorem Room.make {k:Nat}{A:Around}(r:Room (k+1) A) (C:Addr) (us:List Value) (kw:List (Str×Value)):Room k (A.under (.builtin "type.__call__" ⟨.ref C::us,kw⟩)):=
 ⟨r.hd,by have:=r.dp;rw[nH];lia,by have:=r.un;rw[nI];lia,by first|exact r.gd|(simp[Jh,Code.guards,MI,guardIds,pushGuards,r.gd])⟩
theorem Room.depth{k:Nat}{A:Around}(r:Room k A):A.depth<recursionLimit:=by have:=r.dp;lia
theorem Room.units{k:Nat}{A:Around}(r:Room k A):A.units+64<cLine:=by have:=r.un;lia
theorem Room.units0{k:Nat}{A:Around}(r:Room k A):A.units<cLine:=by have:=r.un;lia
def wq:TA:=λ_ H Q=>Q [] H
def nJ(ta:TE)(tr:TA):TA:=λσ H Q=>ta σ H λx H1=>tr σ H1 λxs H2=>Q (x::xs) H2
section
variable{X:Cx}{e:Expr}{es:List Expr}{te:TE}{t:TA}{pos:Pos}
theorem zq:PA X [] wq:=λ_ _ _ _ H Q I h=>KP ⟨[],H,I,.nil,h⟩
theorem wu(ha:PE X e te)(hr:PA X es t)(hs:On (e::es) X.env=(false,eval e X.env)::On es X.env:=by rfl):PA X (e::es) (nJ te t):=by
 intro pos pins s σ H Q I h;rw[hs];show wpAny _ _ (spliced ((false,eval e X.env)::backTo pos (On es X.env))) _ _ s
 refine Kl (thn (ha pins s σ H _ I h) λu s1 ⟨x,H1,I1,r1,q1⟩=>?_);exact thn (hr pos pins s1 σ H1 _ I1 q1) λus s2 ⟨xs,H2,I2,r2,q2⟩=>⟨x::xs,H2,I2,.cons r1 r2,q2⟩
def Cb(t:TA):TE:=λσ H Q=>t σ H λxs H1=>xs.length<=sizeLine/\∀p,H1 p=none->Q (.ref p) (upd H1 p (.tup xs))
def Cc(t:TA):TE:=λσ H Q=>t σ H λxs H1=>xs.length<=sizeLine/\∀p,H1 p=none->Q (.ref p) (upd H1 p (.lst xs))
theorem zr{x1}(h:PA X es t):PE X (.Tuple es x1 pos) (Cb t):=by
 intro pins s σ H Q I hq;refine wpAny_Tuple_spliced (thn (h pos pins s σ H _ I hq) λus s1 ⟨xs,H1,I1,r,z,q⟩=>⟨by rw[<-r.length];exact z,?_⟩);have hf:H1 s1.heap.objs.size=none:=I1.hok.fresh (EI _);refine⟨.ref s1.heap.objs.size,upd H1 s1.heap.objs.size (.tup xs),I1.laid (t':=s1.toks) (λb u e=>EJ _ e) (EI _) ?_,rfl,q _ hf⟩;exact⟨z,us,r,⟨_,E5 _ rfl,rfl,_,rfl⟩⟩
theorem zt(h:PA X es t):PE X (.List es pos) (Cc t):=by
 intro pins s σ H Q I hq;refine wpAny_List_spliced (thn (h pos pins s σ H _ I hq) λus s1 ⟨xs,H1,I1,r,z,q⟩=>⟨by rw[<-r.length];exact z,?_⟩);have hf:H1 s1.heap.objs.size=none:=I1.hok.fresh (EI _);refine⟨.ref s1.heap.objs.size,upd H1 s1.heap.objs.size (.lst xs),I1.laid (t':=s1.toks) (λb u e=>EJ _ e) (EI _) ?_,rfl,q _ hf⟩;exact⟨z,us,0,r,E5 _ rfl⟩
end
noncomputable abbrev Sp:=List V->Hp->VK->XK->Prop
noncomputable abbrev CXT:=List Env->Hp->Shared->XK->Value->Shared->Prop
structure Env0 (P:Program) (w:World) (K:EG) (mg:Str->Option Value) (base:Heap) (A:Around) (outer:List Env) (s:Shared) (H:Hp):Prop where
 frames:A.frames=some outer
 mod:Mod K mg base
 bs:∀b o,base.get? b=some o->s.heap.get? b=some o/\H b=none
 bsz:base.objs.size<=s.heap.objs.size
 funs:s.heap.FunFrames base outer
 frf:∀b∈frs outer,H b=none
 hok:HOk P w H s.heap
 bare:AllBare s.gens
def CE(outer:List Env)(P:Program)(w:World)(H:Hp)(s:Shared)(Q:VK)(u:Value)(s':Shared):Prop:=
 ∃v H',s'.os=s.os/\AllBare s'.gens/\Un (frs outer) [] H H' s.heap s'.heap/\HOk P w H' s'.heap/\RelV v u/\Q v H'
def CR(CX:CXT)(outer:List Env)(P:Program)(w:World)(H:Hp)(s:Shared)(Q:VK)(E:XK)(r:Result)(s':Shared):Prop:=
 match r with
 | .ok (.ret u)=>CE outer P w H s Q u s'
 | .ok _=>False
 | .error e=>CX outer H s E e s'
structure FnOk (P:Program) (w:World) (K:EG) (mg:Str->Option Value) (base:Heap) (CX:CXT) (k:Nat) (f:Addr) (fd:FuncData) (ps:List Str) (sp:Sp):Prop where
 len:∀vs H Q E,sp vs H Q E->vs.length=ps.length
 run:∀(A:Around) (outer:List Env) (s:Shared) (H:Hp) (args:Args) (us:List Value) (vs:List V) (Q:VK) (E:XK),Room k A->Env0 P w K mg base A outer s H->BindsTo s fd args (ps.zip us)->Vals vs us->sp vs H Q E->
  codeAny (model P w) A (.call (.ref f) args) (CR CX outer P w H s Q E) s
theorem Env0.make{P:Program}{w:World}{K:EG}{mg:Str->Option Value}{base:Heap}{A:Around}{outer:List Env}{s:Shared}{H:Hp}(e:Env0 P w K mg base A outer s H)(C:Addr)(us:List Value)(kw:List (Str×Value)):
  Env0 P w K mg base (A.under (.builtin "type.__call__" ⟨.ref C::us,kw⟩)) outer s H:=⟨by first | exact e.frames | (simpa [Jh,Code.envs,Kk,pushEnvs]using e.frames),e.mod,e.bs,e.bsz,e.funs,e.frf,e.hok,e.bare⟩
section
variable{X:Cx}{pins:List (Addr×Obj)}{σ:St}{H:Hp}{s s':Shared}
theorem Inv.env0(I:Inv X pins σ H s):Env0 X.prog X.w X.K X.mg X.base X.A X.stack s H:=
 ⟨I.ok.frames,I.ok.mod,I.bs,FB I.ok.bsz I.sz,I.stack,I.stkFree,I.hok,I.bare⟩
theorem Inv.after{Q:VK}{u:Value}(I:Inv X pins σ H s)(h:CE X.stack X.prog X.w H s Q u s'):EP X pins σ Q u s':=by
 obtain⟨v,H',os,bare,un,hok,r,q⟩:=h;obtain⟨hh,g,d,t,os'⟩:=s';obtain rfl:os'=s.os:=os;exact⟨v,H',I.call (h':=hh) (g':=g) (d':=d) (t':=t) (ch:=[]) un hok bare (λb z=>absurd z (by simp)),r,q⟩
end
def oQ(sp:Sp)(dvs:List V)(E:XK)(t:TA):TE:=λσ H Q=>t σ H λvs H1=>sp (vs++dvs) H1 Q E
def wx(C:Addr)(m:Str)(sp:Sp)(dvs:List V)(E:XK)(ta:TE)(t:TA):TE:=λσ H Q=>ta σ H λx H1=>∃a dx fs,x=.ref a/\H1 a=some (.ins C dx fs)/\fs.lookup m=none/\
 t σ H1 λvs H2=>sp (x::(vs++dvs)) H2 Q E
def wz(C:Addr)(sp:Sp)(dvs:List V)(E:XK)(t:TA):TE:=λσ H Q=>t σ H λvs H1=>∀x dx,H1 x=none->H1 dx=none->dx≠x->
 sp (.ref x::(vs++dvs)) (upd (upd H1 dx (.own x)) x (.ins C dx [])) (λv H2=>v=.non/\Q (.ref x) H2) E
def Binds(K:EG)(fd:FuncData)(ps:List Str)(ds:List Value):Prop:=
 ∀(s:Shared) (us:List Value),K.In s.heap->(us++ds).length=ps.length->BindsTo s fd ⟨us,[]⟩ (ps.zip (us++ds))
theorem Binds.all{K:EG}{fd:FuncData}{ps:List Str}(h:∀us:List Value,us.length=ps.length->bindArgs fd ⟨us,[]⟩=pure (ps.zip us)):Binds K fd ps []:=λs us _ hl=>by
 rw[Gj]at hl ⊢;exact .of_eq (h us hl)
def dM(CX:CXT)(X:Cx)(E:XK):Prop:=∀(pins:List (Addr×Obj)) (σ:St) (H:Hp) (s:Shared) (e:Value) (s':Shared),Inv X pins σ H s->CX X.stack H s E e s'->X.xe e s'
section
variable{X:Cx}{CX:CXT}{k:Nat}{f C:Addr}{fd:FuncData}{ps:List Str}{sp:Sp}{dvs:List V}{ds:List Value}{E:XK}{x m:Str}{p pos apos:Pos}{e o:Expr}{es:List Expr}{ta:TE}{t:TA}
theorem oR{pins:List (Addr×Obj)}{σ:St}{H:Hp}{s:Shared}{Q:VK}{us:List Value}{vs:List V}(F:FnOk X.prog X.w X.K X.mg X.base CX k f fd ps sp)(hr:Room k X.A)(hb:Binds X.K fd ps ds)(hd:Vals dvs ds)(hx:dM CX X E)
  (I:Inv X pins σ H s) (r:Vals vs us) (h:sp (vs++dvs) H Q E):wpAny (model X.prog X.w) X.A (call (.ref f) us) (EP X pins σ Q) X.xe s:=by
 have r2:Vals (vs++dvs) (us++ds):=r.append hd;have hl:(us++ds).length=ps.length:=by rw[<-r2.length];exact F.len _ _ _ _ h
 refine wpAny_call (OJ (F.run X.A X.stack s H ⟨us,[]⟩ (us++ds) (vs++dvs) Q E hr I.env0 (hb s us I.kIn hl) r2 h) λr s' hq=>?_);cases r with
 | error e=>exact hx pins σ H s e s' I hq
 | ok fl=>
  cases fl with
  | ret u=>exact I.after hq
  | next=>exact F6 hq
  | brk=>exact F6 hq
  | cont=>exact F6 hq
theorem wA(F:FnOk X.prog X.w X.K X.mg X.base CX k f fd ps sp)(hr:Room k X.A)(hg:Gl X x)(hm:X.mg x=some (.ref f))(hk:FZ X.K (.ref f)=true)(hb:Binds X.K fd ps ds)(hd:Vals dvs ds)(hx:dM CX X E)
  (ha:PA X (e::es) t) (hdb:(x == ("__debug__" : Str))=false:=by decide) (he:On (e::es) X.env=(false,eval e X.env)::On es X.env:=by rfl) (hpl:(backTo pos (On es X.env)).any (·.1)=false:=by rfl) :
  PE X (.Call (.Name x p) (e::es) [] pos) (oQ sp dvs E t):=by
 intro pins s σ H Q I h;refine Ow (kY I hg hm ?_ hdb);refine IG (h₀:=X.base) I.ok.mod.kin hk (thn (ha pos pins s σ H _ I h) λus s1 ⟨vs,H1,I1,r,q⟩=>⟨I1.kIn,?_⟩) he hpl;exact oR F hr hb hd hx I1 r q
theorem sD{pl:Sem Bool}(he:PE X o ta)(c:Cls X.K C)(hm:Meth X.K C m f)(F:FnOk X.prog X.w X.K X.mg X.base CX k f fd ps sp)(hr:Room k X.A)(hb:Binds X.K fd ps ds)(hd:Vals dvs ds)(hx:dM CX X E)
  (ht:eval (.Call (.Attribute o m apos) [] [] pos) X.env=(do
   let ov <-eval o X.env
   OH apos.atName
   let(f,first) <-OI [ov] (getMethod ov m pl)
   callWith pos f first (backTo pos (On [] X.env)) (backToKw pos (keywordEach [] X.env))):=by rfl) :
  PE X (.Call (.Attribute o m apos) [] [] pos) (wx C m sp dvs E ta wq):=by
 intro pins s σ H Q I h;refine PySem.W.methodCall_KW (pl:=pl) (thn (he pins s σ H _ I h) λu s1 ⟨x,H1,I1,rx,a,dx,fs,ex,ea,l,q⟩=>?_) ht;subst ex;obtain rfl:u=Fi a:=rx;refine nG I1 ea c hm l ?_;exact PySem.W.callWith_K0 (first:=[.ref a]) I1.kIn hm.kp (oR (us:=[.ref a]) (vs:=[.ref a]) F hr hb hd hx I1 (.cons rfl .nil) q)
structure Mk (K:EG) (C f:Addr):Prop where
 makes:Ih K C=true
 init:Fm K (.ref C) "__init__" = some (some (.ref f))
 fn:Gz K (.ref f)=true
 kp:FZ K (.ref C)=true
theorem sF{pins:List (Addr×Obj)}{σ:St}{H:Hp}{s:Shared}{Q:VK}{us:List Value}{vs:List V}(M:Mk X.K C f)(F:FnOk X.prog X.w X.K X.mg X.base CX k f fd ps sp)(hr:Room (k+1) X.A)(hb:Binds X.K fd ps ds)(hd:Vals dvs ds)
  (hx:dM CX X E) (I:Inv X pins σ H s) (r:Vals vs us)
  (h:∀x dx,H x=none->H dx=none->dx≠x->sp (.ref x::(vs++dvs)) (upd (upd H dx (.own x)) x (.ins C dx [])) (λv H2=>v=.non/\Q (.ref x) H2) E) :
  wpAny (model X.prog X.w) X.A (call (.ref C) us) (EP X pins σ Q) X.xe s:=by
 have hq:=h (s.heap.objs.size+1) s.heap.objs.size (I.hok.fresh (Hh _)) (I.hok.fresh (EI _)) (Fc (Jf _));have I2:=Inv.made (C:=C) I;have r2:Vals (V.ref (s.heap.objs.size+1)::(vs++dvs)) (Fi (s.heap.objs.size+1)::(us++ds)):=.cons rfl (r.append hd);have hl:(Fi (s.heap.objs.size+1)::us++ds).length=ps.length:=by
  have e:=r2.length;rw[F.len _ _ _ _ hq]at e;exact e.symm
 refine wpAny_call (sC (f:=f) I.kIn M.makes M.init (beq_iff_eq.mp M.fn) (OJ (F.run _ X.stack _ _ ⟨Fi (s.heap.objs.size+1)::us,[]⟩ (Fi (s.heap.objs.size+1)::(us++ds)) _ _ E (hr.make C us [])
  (I2.env0.make C us []) (hb _ (Fi (s.heap.objs.size+1)::us) I2.kIn hl) r2 hq) λr s' hq'=>?_))
 cases r with
 | error e=>exact hx pins σ _ _ e s' I2 hq'
 | ok fl=>
  cases fl with
  | ret u=>
   obtain⟨v,H',I3,rv,ev,q3⟩:=I2.after hq';subst ev;exact⟨rv,⟨V.ref (s.heap.objs.size+1),H',I3,rfl,q3⟩⟩
  | next=>exact F6 hq'
  | brk=>exact F6 hq'
  | cont=>exact F6 hq'
theorem wB(M:Mk X.K C f)(F:FnOk X.prog X.w X.K X.mg X.base CX k f fd ps sp)(hr:Room (k+1) X.A)(hg:Gl X x)(hm:X.mg x=some (.ref C))(hb:Binds X.K fd ps ds)(hd:Vals dvs ds)(hx:dM CX X E)
  (ha:PA X (e::es) t) (hdb:(x == ("__debug__" : Str))=false:=by decide) (he:On (e::es) X.env=(false,eval e X.env)::On es X.env:=by rfl) (hpl:(backTo pos (On es X.env)).any (·.1)=false:=by rfl) :
  PE X (.Call (.Name x p) (e::es) [] pos) (wz C sp dvs E t):=by
 intro pins s σ H Q I h;refine Ow (kY I hg hm ?_ hdb);refine IG (h₀:=X.base) I.ok.mod.kin M.kp (thn (ha pos pins s σ H _ I h) λus s1 ⟨vs,H1,I1,r,q⟩=>⟨I1.kIn,?_⟩) he hpl;exact sF M F hr hb hd hx I1 r q
end
section
variable{X:Cx}{CX:CXT}{k:Nat}{f C:Addr}{fd:FuncData}{ps ks:List Str}{sp:Sp}{E:XK}{x m:Str}{p pos apos kpos:Pos}{e o:Expr}{es:List Expr}{kws:List Keyword}{te ta:TE}{t tk:TA}{nm:Option Str}
variable{g:List Value->List Value->List Value}{gV:List V->List V->List V}
end
structure FnScope (N P:List Str) (sc:Scope):Prop where
 kind:sc.kind=.function
 co:sc.isCoroutine=false
 gen:sc.isGenerator=false
 nd:N.Nodup
 pre:N.take P.length=P
 par:∀x∈P,sc.names.lookup x=some .local\/sc.names.lookup x=some .cell
 nofree:∀y∈sc.names,y.2≠.free
theorem jV{kindOf:Str->Option NameKind}{x:Str}:∀{binds:List (Str×Value)}{m:Str->Option Value},(∀v,(x,v)∉binds)->bindL kindOf binds m x=m x
 | [],_,_=>rfl
 | (n,v)::r,m,h=>by
  unfold bindL;rw[jV λw hw=>h w (E4 _ hw)];split
  ·have:x≠n:=by rintro rfl;exact h v Fn
   simp[this]
  ·rfl
theorem jW{kindOf:Str->Option NameKind}{x:Str}:∀{binds:List (Str×Value)}{m:Str->Option Value},(∀v,(x,v)∉binds)->bindC kindOf binds m x=m x
 | [],_,_=>rfl
 | (n,v)::r,m,h=>by
  unfold bindC;rw[jW λw hw=>h w (E4 _ hw)];split
  ·rfl
  ·have:x≠n:=by rintro rfl;exact h v Fn
   simp[this]
theorem jX{kindOf:Str->Option NameKind}{x:Str}{v:Value}:∀{P:List Str}{vs:List Value}{i:Nat}{m:Str->Option Value},P.Nodup->P[i]? = some x->vs[i]? = some v->kindOf x=some .local->
  bindL kindOf (P.zip vs) m x=some v
 | [],_,_,_,_,h,_,_=>by simp at h
 | _::_,[],_,_,_,_,h,_=>by simp at h
 | p::P,w::vs,0,m,nd,h1,h2,hk=>by
  simp at h1 h2;subst h1;subst h2;show bindL kindOf ((p,w)::P.zip vs) m p=_
  unfold bindL;rw[jV λv hv=>(GF.mp nd).1 (JA hv).1,if_pos hk];simp
 | p::P,w::vs,i+1,m,nd,h1,h2,hk=>by
  show bindL kindOf ((p,w)::P.zip vs) m x=_
  unfold bindL;exact jX (i:=i) (GF.mp nd).2 (by simpa using h1) (by simpa using h2) hk
theorem jY{kindOf:Str->Option NameKind}{x:Str}{v:Value}:∀{P:List Str}{vs:List Value}{i:Nat}{m:Str->Option Value},P.Nodup->P[i]? = some x->vs[i]? = some v->kindOf x≠some .local->
  bindC kindOf (P.zip vs) m x=some v
 | [],_,_,_,_,h,_,_=>by simp at h
 | _::_,[],_,_,_,_,h,_=>by simp at h
 | p::P,w::vs,0,m,nd,h1,h2,hk=>by
  simp at h1 h2;subst h1;subst h2;show bindC kindOf ((p,w)::P.zip vs) m p=_
  unfold bindC;rw[jW λv hv=>(GF.mp nd).1 (JA hv).1,if_neg hk];simp
 | p::P,w::vs,i+1,m,nd,h1,h2,hk=>by
  show bindC kindOf ((p,w)::P.zip vs) m x=_
  unfold bindC;exact jY (i:=i) (GF.mp nd).2 (by simpa using h1) (by simpa using h2) hk
noncomputable def dq(N:List Str)(vs:List V):St:=vs.map some++E2 (N.length - vs.length) none
noncomputable def sH(CX:CXT)(P:Program)(w:World)(K:EG)(mg:Str->Option Value)(base:Heap)(N:List Str)(qual:Str)(scope:Scope)(f:Addr)(cd:Value)(A:Around)(outer:List Env)(s:Shared)(H:Hp)(E:XK):Cx where
 prog:=P
 w:=w
 K:=K
 mg:=mg
 base:=base
 A:=A.deeper (envOfC qual scope s.heap.objs.size f cd)
 N:=N
 s₀:=s
 H₀:=H
 env:=envOfC qual scope s.heap.objs.size f cd
 outer:=outer
 stack:=envOfC qual scope s.heap.objs.size f cd::outer
 ex:=[]
 calm:=true
 fn:=λ_=>true
 pn:=[]
 xe:=λe s'=>wpAny (model P w) (A.deeper (envOfC qual scope s.heap.objs.size f cd)) (leaving (envOfC qual scope s.heap.objs.size f cd) e) (λ_ s''=>CX outer H s E e s'') (λe' s''=>CX outer H s E e' s'') s'
theorem mh{sc:Scope}{n:Nat}{x:Str}(h:sc.names.lookup x=some .cell):∃c,(cellsFrom n sc.names []).lookup x=some c:=by
 have q:=JH sc.names n [] (.inl h);exact F2.mp q
theorem oS{CX:CXT}{P:Program}{w:World}{K:EG}{mg:Str->Option Value}{base:Heap}{N ps:List Str}{qual:Str}{scope:Scope}{f:Addr}{cd:Value}{A:Around}{outer:List Env}{s s1:Shared}{H:Hp}{E:XK}{us:List Value}{vs:List V}
  (S:FnScope N ps scope) (hd:A.handled=none) (e0:Env0 P w K mg base A outer s H) (hl:vs.length=ps.length) (r:Vals vs us)
  (x:InCallC s s.heap.objs.size (bindL (envOfC qual scope s.heap.objs.size f cd).kindOf (ps.zip us) λ_=>none) (cellsFrom (s.heap.objs.size+1) scope.names []) (bindC (envOfC qual scope s.heap.objs.size f cd).kindOf (ps.zip us) λ_=>none) s1) :
  Inv (sH CX P w K mg base N qual scope f cd A outer s H E) [] (dq N vs) H s1:=by
 have hpl:ps.length<=N.length:=by have:=congrArg GX S.pre;rw[FN]at this;lia
 obtain⟨h1,tk,rfl,hk⟩:=x.done;have noA:∀b:Addr,b∉(sH CX P w K mg base N qual scope f cd A outer s H E).ex:=λb z=>absurd (show b∈([]:List Addr)from z) (by simp)
 refine⟨⟨e0.mod,S.kind,rfl,rfl,EI _,λy z c h1 h2=>?_,λy hy=>?_,λy c _ h=>?_,λ_=>hd,Around.frames_deeper e0.frames,.inr ⟨rfl,rfl⟩,λb z=>absurd z (noA b),e0.bs,e0.bsz,λb _ _=>noA b,λb z=>absurd z (noA b),e0.funs,e0.frf⟩,
  rfl,e0.bare,Un.kept hk,⟨_,x.toInCall.ns,λi y v h1 h2 h3=>?_⟩,λy c h=>⟨_,x.cell y c h⟩,e0.hok.fresh (EI _),λy c h=>?_,λp hp=>absurd (show p∈([]:List (Addr×Obj))from hp) (by simp),e0.hok.kept hk,?_⟩
 ·exact name_of_addr x.apart (Gr h1) (Gr h2)
 ·have hy:scope.names.lookup y=some .cell\/scope.names.lookup y=some .free:=hy
  rcases hy with hy|hy
  ·exact mh hy
  ·exact absurd rfl (S.nofree _ (Gr hy))
 ·exact Gy (x.above y c (Gr h))
 ·have hi:i<vs.length:=by
   unfold dq at h2;by_cases hi:i<vs.length
   ·exact hi
   ·rw[E8 (by simpa using hi)]at h2
    rw[GR]at h2;split at h2<;>cases h2
  have ha:vs[i]? = some v:=by
   unfold dq at h2;rw[E6 (by simpa using hi),EN]at h2;cases e:vs[i]? with
   | none=>rw[e]at h2;cases h2
   | some a=>rw[e]at h2;cases h2;rfl
  obtain⟨u,hu,rv⟩:=r.get ha;have hp:ps[i]? = some y:=by
   rw[<-S.pre,List.getElem?_take_of_lt ⋯];exact h1
  have ndP:ps.Nodup:=by rw[<-S.pre];exact S.nd.sublist (List.take_sublist _ _)
  refine⟨u,rv,?_⟩;rcases S.par y (ES hp)with k|k
  ·exact .inl ⟨k,jX ndP hp hu k⟩
  ·obtain⟨c,e⟩:=mh (n:=s.heap.objs.size+1) k
   refine .inr ⟨.inl k,c,e,?_⟩;have q:=x.cell y c e;rw[jY ndP hp hu (by show scope.names.lookup y≠_;rw[k];decide)]at q;exact q
 ·exact e0.hok.fresh (Gy (x.above y c (Gr h)))
 ·unfold dq
  show _=N.length
  rw[Fd,EE,G6];lia
theorem zu{CX:CXT}{P:Program}{w:World}{K:EG}{mg:Str->Option Value}{base:Heap}{k:Nat}{f:Addr}{name qual:Str}{params:Arguments}{body:List Stmt}{scope:Scope}{dV kV doc pm cdv ct oc:Value}{an od:Option Addr}
  {osl:Array (Option Value)}{N ps:List Str}{sp:Sp}(lk:K.lookup f=some ⟨oc,od,.func (Gk name qual params body scope dV kV doc pm an cdv ct),osl⟩) (hcd:ID K cdv qual=true) (S:FnScope N ps scope)
  (len:∀vs H Q E,sp vs H Q E->vs.length=ps.length)
  (hbody:∀(A:Around) (outer:List Env) (s:Shared) (H:Hp) (vs:List V) (Q:VK) (E:XK),Room k (A.deeper (envOfC qual scope s.heap.objs.size f cdv))->sp vs H Q E->
   ∃t,PSs (sH CX P w K mg base N qual scope f cdv A outer s H E) body t/\t { nx:=λ_ H'=>Q .non H',rt:=Q } (dq N vs) H) :
  FnOk P w K mg base CX (k+1) f (Gk name qual params body scope dV kV doc pm an cdv ct) ps sp:=by
 refine⟨len,λA outer s H args us vs Q E hr e0 hb r hsp=>?_⟩;have hl:=len _ _ _ _ hsp;have KX:K.In s.heap:=e0.mod.kin.keeps λb o e=>(e0.bs b o e).1
 have lim:s.heap.NoLimit:=e0.mod.nolimit.keeps λb o e=>(e0.bs b o e).1
 have hkind:∀y∈ps.zip us,scope.names.lookup y.1=some .local\/(scope.names.lookup y.1=some .cell/\((cellsFrom (s.heap.objs.size+1) scope.names []).lookup y.1).isSome=true):=λ⟨n,v⟩ hy=>by
  rcases S.par n (JA hy).1 with q|q
  ·exact .inl q
  ·exact .inr ⟨q,JH _ _ _ (.inl q)⟩
 refine codeAny_call_function hr.depth (KX _ _ lk) rfl S.co S.gen rfl (PySem.W.codeRec_of KX hcd) (hb _ _ _ _ ?_);refine wpAny_newFunctionEnv_cells S.kind hkind λenv he s1 x=>?_
 subst he;refine⟨lim.keeps x.toInCall.keep,codeAny_func ?_⟩;obtain⟨t,ht,hq⟩:=hbody A outer s H vs Q E (hr.deeper _) hsp;have I:Inv (sH CX P w K mg base N qual scope f cdv A outer s H E) [] (dq N vs) H s1:=oS S hr.hd e0 hl r x;refine Om (ht [] s1 (dq N vs) H _ I hq) (λfl s' hs=>?_) λe s' hs=>hs
 have fin:∀{σ':St}{H':Hp}{v:V}{u:Value},Inv (sH CX P w K mg base N qual scope f cdv A outer s H E) [] σ' H' s'->RelV v u->Q v H'->CE outer P w H s Q u s':=
  λ{σ' H' v u} J rv q=>⟨v,H',J.os,J.bare,J.base,J.hok,rv,q⟩
 cases fl with
 | ret u=>
  obtain⟨v,σ',H',J,rv,q⟩:=hs;exact fin J rv q
 | next=>
  obtain⟨σ',H',J,q⟩:=hs;exact fin (v:=V.non) (u:=Ft) J rfl q
 | brk=>
  obtain⟨_,_,_,q⟩:=hs;exact F6 q
 | cont=>
  obtain⟨_,_,_,q⟩:=hs;exact F6 q
section
variable{X:Cx}{x:Str}{p pos:Pos}{e:Expr}{es:List Expr}{t:TA}{id T:String}{r:List V->Hp->VK->Prop}
def tCB(r:List V->Hp->VK->Prop)(t:TA):TE:=λσ H Q=>t σ H λvs H1=>r vs H1 Q
theorem sI (hc:cb X (.builtin id) r) (hg:Gl X x) (hm:X.mg x=none) (hv:bootBuiltins x=some (.builtin id)) (ha:PA X (e::es) t) (hn:x≠"__name__":=by decide) (hdb:(x == ("__debug__" : Str))=false:=by decide)
  (he:On (e::es) X.env=(false,eval e X.env)::On es X.env:=by rfl) (hpl:(backTo pos (On es X.env)).any (·.1)=false:=by rfl):PE X (.Call (.Name x p) (e::es) [] pos) (tCB r t):=by
 intro pins s σ H Q I h;refine Ow (eP I hg hm hv ?_ hn hdb);exact Lq (thn (ha pos pins s σ H _ I h) λus s1 ⟨vs,H1,I1,r1,q1⟩=>hc pins s1 σ H1 vs us Q I1 r1 q1) he hpl
theorem oT (hc:cb X (.type T) r) (hg:Gl X x) (hm:X.mg x=none) (hv:bootBuiltins x=some (.type T)) (ha:PA X (e::es) t) (hn:x≠"__name__":=by decide) (hdb:(x == ("__debug__" : Str))=false:=by decide)
  (he:On (e::es) X.env=(false,eval e X.env)::On es X.env:=by rfl) (hpl:(backTo pos (On es X.env)).any (·.1)=false:=by rfl):PE X (.Call (.Name x p) (e::es) [] pos) (tCB r t):=by
 intro pins s σ H Q I h;refine Ow (eP I hg hm hv ?_ hn hdb);exact FU (thn (ha pos pins s σ H _ I h) λus s1 ⟨vs,H1,I1,r1,q1⟩=>hc pins s1 σ H1 vs us Q I1 r1 q1) he hpl
end
end L2
open L2.SqL renaming of→N4
open L2.SqT renaming of→N6
open L2.V renaming int→N7,bl→N8,str→N9,ref→Oa,non→Ob
open PySem PySem.Spec PyProof.Rows L2
variable{j n t' k i iy pl b m c:Nat}{its us:List Value}{xs ys:List V}{p l a C q dx:Addr}{σ:L2.St}{pins:List (Addr×Obj)}{u pm it acc:Value}{h:Heap}{X:Cx}{x qual y z kd:Str}{H1 H2 H':Hp}{o:HO}{v:V}{fp ch ps qs:List Addr}{elt cnd iter tg e target iter2:Expr}{E:Value->Shared->Prop}{tc:TT}{g:TG}{wi:TI}{pos pos' py spos lpos:Pos}{s':Shared}{Q:VK}{ta:TE}{t:TA}{tb:TS}{ix zs r:List Nat}{scope:Scope}{P:Program}{rgs rss:List (List Nat)}
namespace HT
open PySem PyProof.Rows
noncomputable def bH:List Int->List Int->Bool
 | [],[]=>false
 | [],_::_=>true
 | _::_,[]=>false
 | x::xs,y::ys=>if x=y then bH xs ys else decide (x<y)
theorem aW(x y:Int)(xs ys:List Int):bH (x::xs) (y::ys)=if x=y then bH xs ys else decide (x<y):=rfl
theorem fq:bH [] []=false:=rfl
theorem iI(y:Int)(ys:List Int):bH [] (y::ys)=true:=rfl
theorem iJ(x:Int)(xs:List Int):bH (x::xs) []=false:=rfl
theorem sL(A:Around)(s:Shared)(a:Int)(t:Tok)(c:Int)(u:Tok):∃e,Lr A s (.int a t) (.int c u) e/\(e=true↔a=c):=
 ⟨(a == c),IH a t c u,by simp⟩
theorem sO(A:Around)(s:Shared)(a:Int)(t:Tok)(c:Int)(u:Tok)(prog:Program)(w:World)(E:Value->Shared->Prop)(Q:Value->Shared->Prop)(h:Q (.bool (decide (a<c))) s):
  wpAny (model prog w) A (richCompare .Lt (.int a t) (.int c u)) Q E s:=
 (Np h:wpAny (model prog w) A (Oo .Lt (.int a t) (.int c u)) Q E s)
section
open PySem.SeqAt
open PySem.AutoSeq1 (wpAny_loadPart')
open PySem.MeetsSeq PySem.MeetsSeq2 PySem.MeetsSeq3
theorem je(l b:Addr)(items items2:Array Value)(n n2:Nat)(dd dd2:Option Addr)(sl sl2:Array (Option Value))(ns ms:List Int)(hi:Ou items.toList ns)(hj:Ou items2.toList ms):
  Meets (Builtin.«tuple.__lt__» ⟨[.ref l,.ref b],[]⟩)
   (λ_ R s=>s.heap.get? l=some { cls:=.type "tuple",dict:=dd,data:=.seq items n,slots:=sl }/\s.heap.get? b=some { cls:=.type "tuple",dict:=dd2,data:=.seq items2 n2,slots:=sl2 }/\
    R (.ok (.ret (.bool (bH ns ms)))) s):=
 .of_wp λprog w A R s h=>by
  obtain⟨hp,g,d,tk,os⟩:=s;obtain⟨hl,hb,h⟩:=h;have f2:=Ji;have z1:items.size=ns.length:=by rw[<-hi.length];simp
  have z2:items2.size=ms.length:=by rw[<-hj.length];simp
  wp_walk using OD hl,OD hb,wpAny_forIn_list _ (λdm b s'=>b.1=none/\s'=⟨hp,g,d,tk,os⟩/\∃(vs ws:List Value) (ns' ms':List Int),dm=vs.zip ws/\
   Ou vs ns'/\Ou ws ms'/\ns'.length+items2.size=ms'.length+items.size/\R (.ok (.ret (.bool (bH ns' ms')))) ⟨hp,g,d,tk,os⟩) _
  case turn=>
   rintro⟨y,x⟩ dm b s' ⟨hb',rfl,vs,ws,ns',ms',hz,hvi,hwi,hlen,hR⟩;cases hvi with
   | nil=>rw[KQ]at hz;cases hz
   | cons a t hvi'=>
    cases hwi with
    | nil=>rw[Km]at hz;cases hz
    | cons c u hwi'=>
     rw[GC]at hz;injection hz with hyx hrest
     injection hyx with hy hx
     subst hy hx;rw[aW]at hR;simp only[Fk]at hlen;obtain⟨e,he,hiff⟩:=sL A.in1 ⟨hp,g,d,tk,os⟩ a t c u;refine Oh (he prog w _ _ ?_);cases e with
     | true=>
      rw[if_pos (hiff.mp rfl)]at hR
      wp_walk
      exact⟨rfl,rfl,_,_,_,_,hrest,hvi',hwi',by lia,hR⟩
     | false=>
      rw[if_neg (λq=>absurd (hiff.mpr q) E9)]at hR;have hri:=sO A.in1 ⟨hp,g,d,tk,os⟩ a t c u prog w
      wp_walk using hri
      exact⟨_,rfl,by simpa using hR⟩
  case fin=>
   rintro⟨b1,b2⟩ s' ⟨hb',rfl,vs,ws,ns',ms',hz,hvi,hwi,hlen,hR⟩;simp only at hb';subst hb';have hv:bH ns' ms'=decide (items.size<items2.size):=by
    cases hvi with
    | nil=>
     cases hwi with
     | nil=>
      simp only[GV]at hlen;rw[fq];exact(decide_eq_false ⋯).symm
     | cons c u hw=>
      simp only[GV,Fk]at hlen;rw[iI];exact(decide_eq_true ⋯).symm
    | cons a t hv=>
     cases hwi with
     | nil=>
      simp only[GV,Fk]at hlen;rw[iJ];exact(decide_eq_false ⋯).symm
     | cons c u hw=>
      rw[GC]at hz;cases hz
   rw[hv]at hR
   wp_walk
   exact⟨_,rfl,by simpa [Lp]using hR⟩
  case h=>
   exact⟨rfl,rfl,items.toList,items2.toList,ns,ms,rfl,hi,hj,by lia,h⟩
end
section
variable{prog:Program}{w:World}{A:Around}{E:Value->Shared->Prop}{s:Shared}
noncomputable def sIx(n d:Nat):Option Int->Nat
 | none=>d
 | some v=>if v<0 then(v+(n:Int)).toNat else min v.toNat n
theorem oU(n d k:Nat):sIx n d (some (k:Int))=min k n:=by
 show(if(k:Int)<0 then((k:Int)+(n:Int)).toNat else min (k:Int).toNat n)=min k n
 rw[if_neg ⋯,IY]
end
end HT
namespace L2
open PySem PySem.Spec PyProof.Rows
noncomputable abbrev TO:=St->Hp->(Option Int->Hp->Prop)->Prop
def PO(X:Cx)(e:Option Expr)(t:TO):Prop:=
 ∀(pins:List (Addr×Obj)) (s:Shared) (σ:St) (H:Hp) (Q:Option Int->Hp->Prop),Inv X pins σ H s->t σ H Q->
  wpAny (model X.prog X.w) X.A (evalPart e X.env) (λu s'=>∃o H',Inv X pins σ H' s'/\IsPart u o/\Q o H') X.xe s
noncomputable def k7:TO:=λ_ H Q=>Q none H
noncomputable def wC(t:TE):TO:=λσ H Q=>t σ H λx H1=>∃i,x=.int i/\Q (some i) H1
theorem ck{ns:List Int}:∀{us:List Value},Vals (ns.map N7) us->Ou us ns:=by
 induction ns with
 | nil=>intro us r;rw[Ii]at r;cases r;exact .nil
 | cons n ns ih=>
  intro us r;rw[Fw]at r;cases r with
  | cons r1 r2=>
   obtain⟨t,e⟩:=r1;subst e;exact .cons n t (ih r2)
section
variable{X:Cx}{e:Expr}{te:TE}{lo hi:Option Expr}{tl th:TO}{pos p2:Pos}
theorem wD:PO X none k7:=by
 intro pins s σ H Q I h;rw[evalPart_none];exact Oi ⟨none,H,I,.none,h⟩
theorem wF(h:PE X e te):PO X (some e) (wC te):=by
 intro pins s σ H Q I hw;rw[evalPart_some];refine thn (h pins s σ H _ I hw) λu s1 ⟨x,H1,I1,r1,q1⟩=>?_
 obtain⟨i,rfl,q⟩:=q1;obtain⟨t,rfl⟩:=r1;exact⟨some i,H1,I1,.int i t,q⟩
def SlR(X:Cx)(r:V->Option Int->Option Int->Hp->VK->Prop):Prop:=
 ∀(pins:List (Addr×Obj)) (s:Shared) (σ:St) (H:Hp) (x:V) (v vl vu:Value) (lo hi:Option Int) (sl:Addr) (Q:VK),Inv X pins σ H s->RelV x v->s.heap.IsSliceOf sl vl vu .none->IsPart vl lo->IsPart vu hi->r x lo hi H Q->
  ∃T id,typeLookup (.type T) "__getitem__" = pure (some (.builtin id))/\s.TypeIs v T/\wpAny (model X.prog X.w) X.A (getItem v (.ref sl)) (EP X pins σ Q) X.xe s
def tSl(r:V->Option Int->Option Int->Hp->VK->Prop)(te:TE)(tl th:TO):TE:=λσ H Q=>te σ H λx H1=>tl σ H1 λl H2=>th σ H2 λu H3=>r x l u H3 Q
theorem sP{r:V->Option Int->Option Int->Hp->VK->Prop}(hr:SlR X r)(he:PE X e te)(hl:PO X lo tl)(hu:PO X hi th):PE X (.Subscript e (.Slice lo hi none p2) pos) (tSl r te tl th):=by
 intro pins s σ H Q I h;refine Subscript_ (thn (he pins s σ H _ I h) λv s1 ⟨x,H1,I1,r1,q1⟩=>?_);refine wpAny_Slice (thn (hl pins s1 σ H1 _ I1 q1) λvl s2 ⟨l,H2,I2,pl,q2⟩=>thn (hu pins s2 σ H2 _ I2 q2) λvu s3 ⟨u,H3,I3,pu,q3⟩=>?_);rw[evalPart_none];refine Oi ?_;have I4:Inv X pins σ H3 { s3 with heap:=s3.heap.push { cls:=.type "slice",data:=.fields #[vl,vu,.none] } }:=I3.kept (t':=s3.toks) λb ob q=>EJ _ q
 obtain⟨T,id,hT,ht,hg⟩:=hr pins { s3 with heap:=s3.heap.push { cls:=.type "slice",data:=.fields #[vl,vu,.none] } } σ H3 x v vl vu l u s3.heap.objs.size Q I4 r1 (Kn ..) pl pu q3;show wpAny (model X.prog X.w) X.A (subscriptTail e (.Slice lo hi none p2) v (.ref s3.heap.objs.size)) (EP X pins σ Q) X.xe { s3 with heap:=s3.heap.push { cls:=.type "slice",data:=.fields #[vl,vu,.none] } }
 exact tail_any (ops:=[.ref s3.heap.objs.size,v]) ht hT hg (by with_unfolding_all rfl)
noncomputable def oV(xs:List V)(lo hi:Option Int):List V:=(xs.drop (HT.sIx xs.length 0 lo)).take (HT.sIx xs.length xs.length hi - HT.sIx xs.length 0 lo)
theorem k8(xs:List V)(lo hi:Option Int):(oV xs lo hi).length<=xs.length:=by
 unfold oV;rw[FN,Jj];lia
end
noncomputable def ixN(n:Nat)(i:Int):Option Nat:=if 0<=i then(if i<n then some i.toNat else none)else if -(n:Int)<=i then some (i+n).toNat else none
noncomputable def atI{α:Type}(xs:List α)(i:Int):Option α:=(ixN xs.length i).bind λj=>xs[j]?
theorem oW{i:Int}(h:ixN n i=some j):seqIndex? i n=some j/\j<n/\-(n:Int)<=i/\i<n:=by
 unfold ixN at h;by_cases h0:0<=i
 ·rw[if_pos h0]at h
  by_cases h1:i<n
  ·rw[if_pos h1]at h
   have e:i.toNat=j:=EY h;exact⟨by rw[seqIndex_of h0 h1,e],by lia,by lia,h1⟩
  ·rw[if_neg h1]at h;cases h
 ·rw[if_neg h0]at h
  by_cases h1:-(n:Int)<=i
  ·rw[if_pos h1]at h
   have e:(i+n).toNat=j:=EY h;exact⟨by rw[seqIndex_neg ⋯ h1,e],by lia,h1,by lia⟩
  ·rw[if_neg h1]at h;cases h
theorem k9{α:Type}{xs:List α}{i:Int}{v:α}(h:atI xs i=some v):∃j,seqIndex? i xs.length=some j/\xs[j]? = some v/\j<xs.length/\-(xs.length:Int)<=i/\i<xs.length:=by
 unfold atI at h;cases e:ixN xs.length i with
 | none=>rw[e]at h;cases h
 | some j=>
  rw[e]at h;obtain⟨h1,h2,h3,h4⟩:=oW e;exact⟨j,h1,h,h2,h3,h4⟩
theorem bc{α:Type}{xs:List α}{v:α}(h:xs[j]? = some v):atI xs (j:Int)=some v:=by
 have hj:j<xs.length:=(EM.mp h).1;have e:ixN xs.length (j:Int)=some j:=by
  unfold ixN;rw[if_pos ⋯,if_pos ⋯];simp
 unfold atI;rw[e];exact h
theorem gr{α:Type}(xs:List α)(v:α):atI (xs++[v]) (-1)=some v:=by
 have hl:(xs++[v]).length=xs.length+1:=by simp
 have e:ixN (xs++[v]).length (-1)=some xs.length:=by
  unfold ixN;rw[hl,if_neg (by decide),if_pos ⋯];congr 1;lia
 unfold atI;rw[e];show(xs++[v])[xs.length]? = some v
 simp
def oX(b:Expr):Prop:=∀o i,subscripted b false o i=operate [o,i] (getItem o i)
def IxR(X:Cx)(r:R2):Prop:=
 ∀(value slice:Expr) (pins:List (Addr×Obj)) (s:Shared) (σ:St) (H:Hp) (x y:V) (v u:Value) (Q:VK),Inv X pins σ H s->RelV x v->RelV y u->r x y H Q->
  subscripted slice false v u=operate [v,u] (getItem v u)->wpAny (model X.prog X.w) X.A (subscriptTail value slice v u) (EP X pins σ Q) X.xe s
def MtR(X:Cx)(id:String)(r:V->List V->Hp->VK->Prop):Prop:=
 ∀(pins:List (Addr×Obj)) (s:Shared) (σ:St) (H:Hp) (x:V) (xs:List V) (v:Value) (us:List Value) (Q:VK),Inv X pins σ H s->RelV x v->Vals xs us->r x xs H Q->
  wpAny (model X.prog X.w) X.A (call (.builtin id) (v::us)) (EP X pins σ Q) X.xe s
section
variable{X:Cx}{a b:Expr}{ta tb:TE}{pos:Pos}
theorem Cd{r:R2}(hr:IxR X r)(ha:PE X a ta)(hb:PE X b tb)(hs:oX b):PE X (.Subscript a b pos) (tOp r ta tb):=by
 intro pins s σ H Q I h;exact Subscript_ (B0 ha hb I h λv u s2 x y H2 I2 rx ry q=>hr a b pins s2 σ H2 x y v u Q I2 rx ry q (hs _ _))
def zw(K:EG):R2:=λx y H Q=>∃p xs i v,x=.ref p/\y=.int i/\SqL K H p xs/\atI xs i=some v/\Q v H
def Br(K:EG):R2:=λx y H Q=>∃p xs i v,x=.ref p/\y=.int i/\SqT K H p xs/\atI xs i=some v/\Q v H
def Dk:R2:=λx y H Q=>∃z i c,x=.str z/\y=.int i/\z.length<=sizeLine/\atI z.cps.toList i=some c/\Q (.str ⟨#[c]⟩) H
theorem wG:IxR X (zw X.K):=by
 intro value slice pins s σ H x y v u Q I rx ry h hs;obtain⟨p,xs,i,z,rfl,rfl,hq,he,q⟩:=h;cases rx;obtain⟨t,rfl⟩:=ry;obtain⟨its,r,pl,hz⟩:=I.list hq;obtain⟨j,h1,h2,h3,h4,h5⟩:=k9 he;obtain⟨w,ew,rw'⟩:=r.get h2;have hl:=r.length;have hn:=gH;have fin:EP X pins σ Q w s:=⟨z,H,I,rw',q⟩;by_cases h0:0<=i
 ·have hj:i.toNat=j:=by
   rw[seqIndex_of h0 h5]at h1;exact EY h1
  exact item_listR pl.isList h0 ⋯ (by rw[hj];simpa using ew) fin hs
 ·have hj:(i+(its.toArray.size:Int)).toNat=j:=by
   rw[seqIndex_neg ⋯ h4]at h1;rw[EW,<-hl];exact EY h1
  exact subscriptTail_builtinR (x:=w) pl.isList.typeIs slot_list_getitem.lookup
   (wpAny_getItem_list_neg (Q:=λr s'=>r=w/\EP X pins σ Q r s') pl.isList ⋯ (by rw[EW]<;>lia) ⋯ (by rw[hj];simpa using ew) ⟨rfl,fin⟩) hs
theorem zx:IxR X (Br X.K):=by
 intro value slice pins s σ H x y v u Q I rx ry h hs;obtain⟨p,xs,i,z,rfl,rfl,hq,he,q⟩:=h;cases rx;obtain⟨t,rfl⟩:=ry;obtain⟨its,r,pl,hz⟩:=I.tuple hq;obtain⟨j,h1,h2,h3,h4,h5⟩:=k9 he;obtain⟨w,ew,rw'⟩:=r.get h2;have hl:=r.length;have hn:=gH;have fin:EP X pins σ Q w s:=⟨z,H,I,rw',q⟩;exact subscriptTail_builtinR (x:=w) pl.typeIs slot_tuple_getitem.lookup
  (getItem_tuple (j:=j) (Q:=λr s'=>r=w/\EP X pins σ Q r s') pl ⋯ ⋯ (by rw[EW,<-hl];exact h1) (by simpa using ew) ⟨rfl,fin⟩) hs
theorem zy:IxR X Dk:=by
 intro value slice pins s σ H x y v u Q I rx ry h hs;obtain⟨z,i,c,rfl,rfl,hz,he,q⟩:=h;obtain⟨t,rfl⟩:=rx;obtain⟨t',rfl⟩:=ry;obtain⟨j,h1,h2,h3,h4,h5⟩:=k9 he;have hl:z.cps.toList.length=z.length:=by simp[JV]
 rw[hl]at h1 h4 h5;have hn:=gH;exact tail_any (OA s z t) slot_str_getitem.lookup (getItem_str (c:=c) (by
  have e1:decide (i < -(2 ^ 63:Int))=false:=decide_eq_false ⋯;have e2:decide (i>=2 ^ 63)=false:=decide_eq_false ⋯;rw[e1,e2,Bool.or_false]) (by rw[h1];simpa using h2) ⟨.str ⟨#[c]⟩,H,I.tok _,⟨_,rfl⟩,q⟩) hs
theorem nK (its:List Value) (n j:Nat) (u:Value):Fj (·.setIfInBounds j u) { cls:=.type "list",data:=.seq its.toArray n }={ cls:=.type "list",data:=.seq (its.set j u).toArray n }:=by
 simp[Fj]
theorem Inv.lst{pins:List (Addr×Obj)}{σ:St}{H:Hp}{s:Shared}{p:Addr}{xs:List V}(I:Inv X pins σ H s)(h:H p=some (.lst xs)):
  ∃(its:List Value) (n:Nat),Vals xs its/\s.heap.get? p=some { cls:=.type "list",data:=.seq its.toArray n }/\xs.length<=sizeLine:=by
 obtain⟨z,its,n,r,e⟩:=I.hok p _ h;exact⟨its,n,r,e,z⟩
theorem Inv.lstUpd{H:Hp}{s:Shared}{its':List Value}{n':Nat}{f:Obj->Obj}(I:Inv X pins σ H s)(h:H p=some (.lst xs))
  (ho:s.heap.get? p=some { cls:=.type "list",data:=.seq its.toArray n }) (hf:f { cls:=.type "list",data:=.seq its.toArray n }={ cls:=.type "list",data:=.seq its'.toArray n' }) (r:Vals ys its') (hz:ys.length<=sizeLine) (t:Nat) :
  Inv X pins σ (upd H p (.lst ys)) { s with heap:=s.heap.update p f,toks:=t }:=by
 have e:(s.heap.update p f).get? p=some { cls:=.type "list",data:=.seq its'.toArray n' }:=by
  rw[Heap.get?_update_self f ho (by rw[hf]<;>rfl),hf]
 refine I.write (x:=p) (e:=p) (by rw[h];trivial) (.inl rfl) (λb u hb q=>(GY _ _ (E7 hb)).trans q) ⟨_,e⟩ ?_;exact⟨hz,its',n',r,e⟩
def oY:V->V->V->Hp->(Hp->Prop)->Prop:=λo i v H Q=>∃p xs k j,o=.ref p/\i=.int k/\H p=some (.lst xs)/\ixN xs.length k=some j/\Q (upd H p (.lst (xs.set j v)))
theorem sQ:Di X oY:=by
 intro pins s σ H o i v ov iv u Q I ro ri rv h;obtain⟨p,xs,k,j,rfl,rfl,hp,hj,q⟩:=h;cases ro;obtain⟨t,rfl⟩:=ri;obtain⟨its,n,r,ho,hz⟩:=I.lst hp;obtain⟨h1,h2,h3,h4⟩:=oW hj;have hl:=r.length;have hn:=gH;have I':Inv X pins σ (upd H p (.lst (xs.set j v))) { s with heap:=s.heap.update p (Fj (·.setIfInBounds j u)) }:=
  I.lstUpd hp ho (nK its n j u) (r.set rv j) (by rw[Ij];exact hz) s.toks
 by_cases h0:0<=k
 ·have hk:k.toNat=j:=by
   rw[seqIndex_of h0 h4]at h1;exact EY h1
  exact PySem.W.ki_setAt ho h0 ⋯ (by rw[EW,<-hl];exact h4) (by rw[hk];exact⟨_,I',q⟩)
 ·have hk:(k+(its.toArray.size:Int)).toNat=j:=by
   rw[seqIndex_neg ⋯ h3]at h1;rw[EW,<-hl];exact EY h1
  exact PySem.W.ki_setBack ho ⋯ (by rw[EW,<-hl];exact h3) ⋯ (by rw[hk];exact⟨_,I',q⟩)
theorem jZ(lo hi:Option Int)(n:Nat):(OM lo hi none n).1=((HT.sIx n 0 lo:Nat):Int)/\(OM lo hi none n).2.1=((HT.sIx n n hi:Nat):Int)/\(OM lo hi none n).2.2=1:=by
 refine⟨?_,?_,rfl⟩
 ·cases lo with
  | none=>simp[OM,HT.sIx]
  | some i=>
   simp only[OM,HT.sIx,Ld,show(1:Int) > 0 by decide,if_true];by_cases h:i<0
   ·simp only[h,if_true]<;>lia
   ·simp only[h,if_false]<;>lia
 ·cases hi with
  | none=>simp[OM,HT.sIx]
  | some i=>
   simp only[OM,HT.sIx,Ld,show(1:Int) > 0 by decide,if_true];by_cases h:i<0
   ·simp only[h,if_true]<;>lia
   ·simp only[h,if_false]<;>lia
theorem jf(its:List Value)(lo hi:Option Int):slicePick its.toArray lo hi none=((its.drop (HT.sIx its.length 0 lo)).take (HT.sIx its.length its.length hi - HT.sIx its.length 0 lo)).toArray:=by
 obtain⟨h1,h2,h3⟩:=jZ lo hi its.toArray.size;unfold slicePick;rw[h1,h2,h3];simp only[sliceRange_one,pick_run,EW]<;>rfl
def Ce(K:EG):V->Option Int->Option Int->Hp->VK->Prop:=λx lo hi H Q=>∃a xs,x=.ref a/\SqL K H a xs/\∀p,H p=none->Q (.ref p) (upd H p (.lst (oV xs lo hi)))
theorem wH:SlR X (Ce X.K):=by
 intro pins s σ H x v vl vu lo hi sl Q I rx hs pl pu h;obtain⟨a,xs,rfl,hx,q⟩:=h;cases rx;obtain⟨its,r,ht,hz⟩:=I.list hx;have hlen:=r.length;refine⟨"list",_,slot_list_getitem.lookup,ht.isList.typeIs,?_⟩;refine wpAny_getItem_list_slice ht.isList hs pl pu .none (by simp) ?_ (by rw[EW]<;>lia);rw[jf,<-hlen];refine⟨.ref s.heap.objs.size,_,I.laid (t':=s.toks) (o:=.lst (oV xs lo hi)) (λb ob q=>EJ _ q) (EI _) ?_,rfl,q _ (I.hok.fresh (EI _))⟩;exact⟨FB (k8 xs lo hi) hz,_,0,(r.drop (HT.sIx xs.length 0 lo)).take (HT.sIx xs.length xs.length hi - HT.sIx xs.length 0 lo),E5 _ rfl⟩
noncomputable def gL:V->Bool
 | .non=>true
 | .bl _=>true
 | .int _=>true
 | .str _=>true
 | _=>false
noncomputable def eqV:V->V->Bool
 | .non,.non=>true
 | .bl a,.bl b=>a == b
 | .bl a,.int b=>(if a then 1 else 0) == b
 | .int a,.bl b=>a == (if b then 1 else 0)
 | .int a,.int b=>a == b
 | .str a,.str b=>a == b
 | _,_=>false
theorem zz{A:Around}{s:Shared}{y x:V}{v:Value}(ry:RelV y u)(rx:RelV x v)(fy:gL y=true)(fx:gL x=true):Lr A s u v (eqV y x):=by
 cases y with
 | non=>
  cases ry;cases x with
  | non=>cases rx;exact NU _
  | bl b=>cases rx;exact Ng b
  | int b=>obtain⟨t,rfl⟩:=rx;exact Nq b t
  | str b=>obtain⟨t,rfl⟩:=rx;exact Nr b t
  | _=>exact absurd (show false=true from fx) E9
 | bl a=>
  cases ry;cases x with
  | non=>cases rx;exact Nh a
  | bl b=>cases rx;exact Ni a b
  | int b=>obtain⟨t,rfl⟩:=rx;exact Nt a b t
  | str b=>obtain⟨t,rfl⟩:=rx;exact Nu a b t
  | _=>exact absurd (show false=true from fx) E9
 | int a=>
  obtain⟨t',rfl⟩:=ry;cases x with
  | non=>cases rx;exact Nv a t'
  | bl b=>cases rx;exact Nw a t' b
  | int b=>obtain⟨t,rfl⟩:=rx;exact IH a t' b t
  | str b=>obtain⟨t,rfl⟩:=rx;exact Ke a t' b t
  | _=>exact absurd (show false=true from fx) E9
 | str a=>
  obtain⟨t',rfl⟩:=ry;cases x with
  | non=>cases rx;exact Ny a t'
  | bl b=>cases rx;exact Nz a t' b
  | int b=>obtain⟨t,rfl⟩:=rx;exact Kg a t' b t
  | str b=>obtain⟨t,rfl⟩:=rx;exact NG a t' b t
  | _=>exact absurd (show false=true from fx) E9
 | _=>exact absurd (show false=true from fy) E9
noncomputable def eqU(x:V)(u:Value):Bool:=match u with
 | .none=>eqV .non x
 | .bool b=>eqV (.bl b) x
 | .int i _=>eqV (.int i) x
 | .str z _=>eqV (.str z) x
 | _=>false
theorem uS{x y:V}(r:RelV y u)(f:gL y=true):eqU x u=eqV y x:=by
 cases y with
 | non=>cases r;rfl
 | bl b=>cases r;rfl
 | int i=>obtain⟨t,rfl⟩:=r;rfl
 | str z=>obtain⟨t,rfl⟩:=r;rfl
 | _=>exact absurd (show false=true from f) E9
theorem gM{x:V}:∀{xs:List V}{us:List Value},Vals xs us->xs.all gL=true->us.any (eqU x)=xs.any λy=>eqV y x
 | _,_,.nil,_=>rfl
 | y::xs,u::us,.cons r t,f=>by
  rw[GT,FW]at f;rw[JZ,JZ,uS r f.1,gM t f.2]
theorem fu{A:Around}{s:Shared}{x:V}{v:Value}(rx:RelV x v)(fx:gL x=true):∀{xs:List V}{us:List Value},Vals xs us->xs.all gL=true->∀u∈us,Lr A s u v (eqU x u)
 | _,_,.nil,_=>λu hu=>by cases hu
 | y::xs,u::us,.cons r t,f=>λu' hu=>by
  rw[GT,FW]at f;rcases EO.mp hu with rfl|hu
  ·rw[uS r f.1];exact zz r rx f.1 fx
  ·exact fu rx fx t f.2 u' hu
noncomputable def inV(x:V)(xs:List V):Bool:=xs.any λy=>eqV y x
def rIn(K:EG)(neg:Bool):R2:=λx y H Q=>∃p xs,y=.ref p/\(SqL K H p xs\/SqT K H p xs)/\gL x=true/\xs.all gL=true/\Q (.bl (if neg then !inV x xs else inV x xs)) H
theorem oZ:OpR X (Oo .In) (rIn X.K false):=by
 intro pins s σ H x y v u Q I rx ry h;obtain⟨p,xs,rfl,hq,fx,fs,q⟩:=h;cases ry;rcases hq with hq|hq
 ·obtain⟨its,r,pl,hz⟩:=I.list hq
  refine SeqAt.in_listAt (eqU x) pl.isList (λw hw=>fu rx fx r fs w (by simpa using hw)) ⟨.bl _,H,I,rfl,?_⟩;rw[show its.toArray.any (eqU x)=its.any (eqU x)by simp,gM r fs];exact q
 ·obtain⟨its,r,pl,hz⟩:=I.tuple hq
  refine SeqAt.in_tupleAt (eqU x) pl (λw hw=>fu rx fx r fs w (by simpa using hw)) ⟨.bl _,H,I,rfl,?_⟩;rw[show its.toArray.any (eqU x)=its.any (eqU x)by simp,gM r fs];exact q
theorem j0:OpR X (Oo .NotIn) (rIn X.K true):=by
 intro pins s σ H x y v u Q I rx ry h;obtain⟨p,xs,rfl,hq,fx,fs,q⟩:=h;cases ry;rcases hq with hq|hq
 ·obtain⟨its,r,pl,hz⟩:=I.list hq
  refine SeqAt.notIn_listAt (eqU x) pl.isList (λw hw=>fu rx fx r fs w (by simpa using hw)) ⟨.bl _,H,I,rfl,?_⟩;rw[show its.toArray.any (eqU x)=its.any (eqU x)by simp,gM r fs];exact q
 ·obtain⟨its,r,pl,hz⟩:=I.tuple hq
  refine SeqAt.notIn_tupleAt (eqU x) pl (λw hw=>fu rx fx r fs w (by simpa using hw)) ⟨.bl _,H,I,rfl,?_⟩;rw[show its.toArray.any (eqU x)=its.any (eqU x)by simp,gM r fs];exact q
theorem j2:cb X (.builtin "len") (λxs H Q=>∃p ys,xs=[.ref p]/\(SqL X.K H p ys\/SqT X.K H p ys)/\Q (.int ys.length) H):=by
 intro pins s σ H xs us Q I r h;obtain⟨p,ys,rfl,hq,q⟩:=h;obtain⟨u,rfl,rx⟩:=cG r;cases rx;have hn:=gH;rcases hq with hq|hq
 ·obtain⟨its,r',pl,hz⟩:=I.list hq
  have hlen:=r'.length;exact Calls.call_len_list pl.isList (by simp only[EW]<;>lia) ⟨.int ys.length,H,I.tok _,⟨s.toks+1,by rw[EW,hlen]⟩,q⟩
 ·obtain⟨its,r',pl,hz⟩:=I.tuple hq
  have hlen:=r'.length;exact len_tuple pl (by simp only[EW]<;>lia) ⟨.int ys.length,H,I.tok _,⟨s.toks+1,by rw[EW,hlen]⟩,q⟩
theorem j4:cb X (.builtin "len") (λxs H Q=>∃z,xs=[.str z]/\z.length<=sizeLine/\Q (.int z.length) H):=by
 intro pins s σ H xs us Q I r h;obtain⟨z,rfl,hz,q⟩:=h;obtain⟨u,rfl,t,rfl⟩:=cG r;have hn:=gH;exact len_str ⋯ ⟨.int z.length,H,I.tok _,⟨_,rfl⟩,q⟩
theorem jg:cb X (.type "tuple") (λxs H Q=>∃p ys,xs=[.ref p]/\((SqL X.K H p ys/\∀l,H l=none->Q (.ref l) (upd H l (.tup ys)))\/(SqT X.K H p ys/\Q (.ref p) H))):=by
 intro pins s σ H xs us Q I r h;obtain⟨p,ys,rfl,h⟩:=h;obtain⟨u,rfl,rx⟩:=cG r;cases rx;rcases h with⟨hq,q⟩|⟨hq,q⟩
 ·obtain⟨its,r',pl,hz⟩:=I.list hq
  have hlen:=r'.length;refine call_tuple_list pl.isList (λh' kp=>?_) (by simp only[EW]<;>lia);have I1:Inv X pins σ H { s with heap:=h' }:=I.kept (t':=s.toks) kp;have I2:Inv X pins σ (upd H h'.objs.size (.tup ys)) { s with heap:=h'.push { cls:=.type "tuple",data:=.seq its.toArray } }:=
   I1.laid (t':=s.toks) (λb o e=>EJ _ e) (EI _) (show ObjOk X.prog X.w _ _ _ (.tup ys)from⟨hz,its,r',NC _ _⟩)
  exact⟨.ref h'.objs.size,_,I2,rfl,q _ (I1.hok.fresh (EI _))⟩
 ·obtain⟨its,r',pl,hz⟩:=I.tuple hq
  exact call_tuple_same pl ⟨.ref p,H,I,rfl,q⟩
def tyV(K:EG)(T:String)(x:V)(H:Hp):Prop:=match x with
 | .str _=>T = "str"
 | .int _=>T = "int"
 | .ref p=>(T = "list"/\∃xs,SqL K H p xs)\/(T = "tuple"/\∃o,K.lookup p=some o/\o.cls=.type "tuple"/\o.dict=none)\/
   (T = "dict"/\((∃kvs,H p=some (.dK kvs))\/∃kvs,H p=some (.dT kvs)))\/(T = "set"/\∃S n,H p=some (.set S n))
 | _=>False
theorem zA{H:Hp}{s:Shared}{T:String}{x:V}{v:Value}(I:Inv X pins σ H s)(r:RelV x v)(ty:tyV X.K T x H):
  s.TypeIs v T/\∀a,v=.ref a->∃ob,s.heap.get? a=some ob/\ob.dict=none:=by
 cases x with
 | str z=>
  obtain⟨t,rfl⟩:=r;cases(show T = "str" from ty);exact⟨OA s z t,λ_ e=>nomatch e⟩
 | int i=>
  obtain⟨t,rfl⟩:=r;cases(show T = "int" from ty);exact⟨typeIs_int s i t,λ_ e=>nomatch e⟩
 | ref p=>
  cases r;rcases ty with⟨rfl,xs,hq⟩|⟨rfl,o,hk,hc,hd⟩|⟨rfl,hk⟩|⟨rfl,S,n,hk⟩
  ·obtain⟨its,_,pl,_⟩:=I.list hq
   refine⟨pl.isList.typeIs,λa e=>?_⟩;cases e;obtain⟨o,n,e,c,hd,_⟩:=pl;exact⟨o,e,hd⟩
  ·refine⟨⟨o,I.kIn p o hk,hc⟩,λa e=>?_⟩
   cases e;exact⟨o,I.kIn _ o hk,hd⟩
  ·have z:∃o,s.heap.get? p=some o/\o.ExactDict:=by
    rcases hk with⟨kvs,hk⟩|⟨kvs,hk⟩
    ·obtain⟨_,_,_,_,o,_,_,e,ex,_⟩:=I.hok p _ hk
     exact⟨o,e,ex⟩
    ·obtain⟨_,_,_,_,o,_,_,e,ex,_⟩:=I.hok p _ hk
     exact⟨o,e,ex⟩
   obtain⟨o,e,ex⟩:=z;refine⟨⟨o,e,ex.1⟩,λa e2=>?_⟩;cases e2;exact⟨o,e,ex.2.1⟩
  ·obtain⟨o,_,_,_,e,ex,_⟩:=I.hok p _ hk
   refine⟨⟨o,e,ex.1⟩,λa e2=>?_⟩;cases e2;exact⟨o,e,ex.2.1⟩
 | _=>exact F6 ty
def tBM(K:EG)(T:String)(r:V->List V->Hp->VK->Prop)(to:TE)(t:TA):TE:=λσ H Q=>to σ H λx H1=>tyV K T x H1/\t σ H1 λxs H2=>r x xs H2 Q
variable{o e:Expr}{es:List Expr}{to:TE}{t:TA}{name:Str}{apos cpos:Pos}{T id:String}{r:V->List V->Hp->VK->Prop}
theorem Cf (pa:PlainAttrs T) (slot:Slot T name id) (hty:typeOf (.builtin id)=pure (.type "method_descriptor")) (hm:MtR X id r) (ho:PE X o to) (ha:PA X (e::es) t)
  (hbase:Oq o name X.env (eval o X.env)=eval o X.env:=by rfl)
  (hfew:((backTo cpos (On (e::es) X.env)).all (λx=>!x.1) && (backToKw cpos (keywordEach [] X.env)).all (λx=>x.1.isSome)
   && decide ((e::es).length+([]:List Keyword).length+(if([]:List Keyword).isEmpty then 0 else 1)<30))=true:=by rfl)
  (hline:(apos.endLine == cpos.line)=true:=by rfl) (hs:On (e::es) X.env=(false,eval e X.env)::On es X.env:=by rfl) (hplain:(backTo cpos (On es X.env)).any (·.1)=false:=by rfl) :
  PE X (.Call (.Attribute o name apos) (e::es) [] cpos) (tBM X.K T r to t):=by
 intro pins s σ H Q I h;refine wpAny_Call_method_late hbase hfew hline rfl (thn (ho pins s σ H _ I h) λv s1 ⟨x,H1,I1,r1,ty,q1⟩=>?_);obtain⟨h1,h2⟩:=zA I1 r1 ty;refine⟨T,id,pa,slot,hty,h1,h2,?_⟩;have hA:=ha cpos pins s1 σ H1 _ I1 q1;rw[hs]at hA ⊢;refine Calls.callWith_builtin (by show(false || (backTo cpos (On es X.env)).any (·.1))=false;rw[hplain]<;>rfl) (Calls.evalArgs_plain ?_);exact thn hA λus s2 ⟨vs,H2,I2,r2,q2⟩=>hm pins s2 σ H2 x vs v us Q I2 r1 r2 q2
end
def MtM(X:Cx)(id:String)(r:V->List V->Hp->VK->Prop):Prop:=
 ∀(pins:List (Addr×Obj)) (s:Shared) (σ:St) (H:Hp) (x:V) (xs:List V) (v:Value) (us:List Value) (Q:VK),Inv X pins σ H s->RelV x v->Vals xs us->r x xs H Q->
  wpAny (model X.prog X.w) X.A (call (.builtin id) (v::us)) (EP X pins σ Q) X.xe s
theorem Vals.one:∀{x:V}{us:List Value},Vals [x] us->∃u,us=[u]/\RelV x u
 | _,_,.cons r .nil=>⟨_,rfl,r⟩
theorem Vals.reverse{xs:List V}{us:List Value}(h:Vals xs us):Vals xs.reverse us.reverse:=by
 induction h with
 | nil=>exact .nil
 | cons r t ih=>rw[KR,KR];exact Vals.append ih (.cons r .nil)
theorem Vals.rep{xs:List V}{us:List Value}(h:Vals xs us):∀k:Nat,Vals (E2 k xs).flatten (E2 k us).flatten
 | 0=>.nil
 | k+1=>by
  rw[FO,FO,G1,G1];exact Vals.append h (Vals.rep h k)
theorem j5(its:List Value):∀(k:Nat) (acc:List Value),
  Lu (λx1 x2=>x1++x2) acc.toArray (E2 k its.toArray)=(acc++(E2 k its).flatten).toArray
 | 0,acc=>by simp
 | k+1,acc=>by
  have e:acc.toArray++its.toArray=(acc++its).toArray:=by simp
  have e2:(acc++its)++(E2 k its).flatten=acc++(E2 (k+1) its).flatten:=by
   rw[FO,G1,HQ]
  rw[<-e2,<-j5 its k (acc++its),<-e,FO,List.foldl_cons]
section
variable{X:Cx}{pins:List (Addr×Obj)}{σ:St}{H:Hp}{s:Shared}{l b:Addr}{xs ys zs:List V}
theorem Inv.lset{its':List Value}{f:Array Value->Array Value}(I:Inv X pins σ H s)(hH:H l=some (.lst xs))
  (e:s.heap.get? l=some { cls:=.type "list",data:=.seq its.toArray n }) (hf:f its.toArray=its'.toArray) (hv:Vals ys its') (hz:ys.length<=sizeLine) :
  Inv X pins σ (upd H l (.lst ys)) { s with heap:=s.heap.update l (Fj f),toks:=t' }:=by
 have q:=NQ e f;rw[hf]at q;refine I.write (x:=l) (e:=l) (by rw[hH];exact trivial) (.inl rfl) (λb' u hb hu=>(GY s.heap (Fj f) (E7 hb)).trans hu) ⟨_,q⟩ ?_;exact⟨hz,its',_,hv,q⟩
theorem Inv.lnew(I:Inv X pins σ H s)(hv:Vals ys its)(hz:ys.length<=sizeLine):
  Inv X pins σ (upd H s.heap.objs.size (.lst ys)) { s with heap:=s.heap.push { cls:=.type "list",data:=.seq its.toArray },toks:=t' }:=
 I.laid (λ_ _ q=>EJ _ q) (EI _) ⟨hz,its,0,hv,E5 _ rfl⟩
theorem Inv.fresh(I:Inv X pins σ H s):H s.heap.objs.size=none:=I.hok.fresh (EI _)
theorem Inv.lstM (I:Inv X pins σ H s) (hH:H l=some (.lst xs)):xs.length<=sizeLine/\∃(its:List Value) (n:Nat),Vals xs its/\xs.length=its.length/\s.heap.get? l=some { cls:=.type "list",data:=.seq its.toArray n }:=by
 obtain⟨z,its,n,r,e⟩:=I.hok l _ hH;exact⟨z,its,n,r,r.length,e⟩
theorem jh(h:n<=sizeLine):F3 n=false:=by
 unfold F3;exact decide_eq_false ⋯
end
section
variable{X:Cx}
def lg:V->List V->Hp->VK->Prop:=λx vs H Q=>∃l xs y,x=.ref l/\vs=[y]/\H l=some (.lst xs)/\xs.length<sizeLine/\Q .non (upd H l (.lst (xs++[y])))
theorem o7:MtM X "list.append" lg:=by
 intro pins s σ H x vs v us Q I rx rv h;obtain⟨l,xs,y,rfl,rfl,hH,hz,q⟩:=h;cases rx;obtain⟨u,rfl,ru⟩:=rv.one;obtain⟨z,its,n,r,hl,e⟩:=I.lstM hH;refine OB F.slot_list_append ⟨_,e,rfl⟩ F.entry_list_append (F.args_list_append_2 _ _) (PySem.list_append l its.toArray n u (by rw[EW];lia)) ⟨e,?_⟩;refine⟨.non,_,I.lset (its':=its++[u]) hH e (by simp) (r.append (.cons ru .nil)) ?_,rfl,q⟩;rw[Fd,Gf];lia
def lh:V->List V->Hp->VK->Prop:=λx vs H Q=>∃l b xs zs,x=.ref l/\vs=[.ref b]/\H l=some (.lst xs)/\H b=some (.lst zs)/\xs.length+zs.length<=sizeLine/\Q .non (upd H l (.lst (xs++zs)))
theorem o8:MtM X "list.extend" lh:=by
 intro pins s σ H x vs v us Q I rx rv h;obtain⟨l,b,xs,zs,rfl,rfl,hH,hB,hz,q⟩:=h;cases rx;obtain⟨u,rfl,ru⟩:=rv.one;cases ru;obtain⟨z,its,n,r,hl,e⟩:=I.lstM hH;obtain⟨z2,its2,n2,r2,hl2,e2⟩:=I.lstM hB;have hsz:its.toArray.size+its2.toArray.size<=sizeLine:=by rw[EW,EW];lia
 have hlong:¬(!its.toArray.isEmpty && F3 (its.toArray.size+its2.toArray.size))=true:=by
  rw[jh hsz,LS];exact E9
 refine OB Ko ⟨_,e,rfl⟩ J7 (JW _ _)
  (Le l its.toArray n b its2.toArray n2 hlong (by rw[EW];lia) ⋯) ⟨e,e2,?_⟩
 refine⟨.non,_,I.lset (its':=its++its2) hH e (by simp) (r.append r2) ?_,rfl,q⟩;rw[Fd];lia
def Dl:R2:=λx y H Q=>∃l b xs zs,x=.ref l/\y=.ref b/\H l=some (.lst xs)/\H b=some (.lst zs)/\xs.length+zs.length<=sizeLine/\∀p,H p=none->Q (.ref p) (upd H p (.lst (xs++zs)))
theorem zB:OpR X (Ov .Add) Dl:=by
 intro pins s σ H x y v u Q I rx ry h;obtain⟨l,b,xs,zs,rfl,rfl,hH,hB,hz,q⟩:=h;cases rx;cases ry;obtain⟨z,its,n,r,hl,e⟩:=I.lstM hH;obtain⟨z2,its2,n2,r2,hl2,e2⟩:=I.lstM hB;refine PySem.P.add_list e e2 ?_ (by rw[EW,EW];lia);have ea:its.toArray++its2.toArray=(its++its2).toArray:=by simp
 rw[ea];exact⟨.ref _,_,I.lnew (t':=s.toks) (r.append r2) (by rw[Fd];lia),rfl,q _ I.fresh⟩
def Dm:R2:=λx y H Q=>∃l k xs,x=.ref l/\y=.int k/\H l=some (.lst xs)/\-(2 ^ 63)<=k/\k<2 ^ 63/\xs.length*k.toNat<=sizeLine/\
 ∀p,H p=none->Q (.ref p) (upd H p (.lst (E2 k.toNat xs).flatten))
theorem wI{α:Type}(xs:List α)(k:Nat):(E2 k xs).flatten.length=k*xs.length:=by
 induction k with
 | zero=>simp
 | succ k ih=>rw[FO,G1,Fd,ih,MJ,Kp]
theorem zC:OpR X (Ov .Mult) Dm:=by
 intro pins s σ H x y v u Q I rx ry h;obtain⟨l,k,xs,rfl,rfl,hH,h1,h2,hz,q⟩:=h;cases rx;obtain⟨t,rfl⟩:=ry;obtain⟨z,its,n,r,hl,e⟩:=I.lstM hH;have hlen:its.toArray.size*k.toNat<=sizeLine:=by rw[EW,<-hl];exact hz
 have hcap:¬its.toArray.size*k.toNat > (2 ^ 63 - 1) / 8:=by
  have:(sizeLine:Nat)<=(2 ^ 63 - 1) / 8:=by decide
  lia
 have hfit:¬(!Builtin.List.listFitsIndex k)=true:=by
  rw[fitsIndex_both h1 h2];exact E9
 have hlong:¬F3 (its.toArray.size*k.toNat)=true:=by
  rw[jh hlen];exact E9
 have hnew:Lu (λx1 x2=>x1++x2) #[] (E2 (if its.toArray.isEmpty=true then 0 else k.toNat) its.toArray)=(E2 k.toNat its).flatten.toArray:=by
  have f0:∀m:Nat,Lu (λx1 x2=>x1++x2) #[] (E2 m its.toArray)=(E2 m its).flatten.toArray:=λm=>by
   have:=j5 its m [];rw[Lv]at this;exact this
  rw[f0];cases its with
  | nil=>simp
  | cons a r'=>rw[if_neg (by simp)]
 refine wpAny_binaryOp_repeat_ref (T:="list") (U:="int") (by decide) ⟨_,e,rfl⟩ (λs'=>typeIs_int s' k t) noFill_list_mul F.fills_int_mul Lw repeat_list F.slot_int_index.lookup
  (OB Lw (typeIs_int s k t) F.entry_int_rmul (F.args_int_rmul_2 _ _) (int___rmul___int_list k t l its.toArray n)
   ⟨e,rfl,⟨_,e,rfl⟩,OB F.slot_list_mul ⟨_,e,rfl⟩ F.entry_list_mul (F.args_list_mul_2 _ _) (K6 l its.toArray n k t hfit hcap hlong) ⟨e,?_⟩⟩)
 rw[hnew];exact⟨.ref _,_,I.lnew (t':=s.toks) (r.rep k.toNat) (by rw[wI,Nat.mul_comm];exact hz),rfl,q _ I.fresh⟩
end
section
variable{prog:Program}{w:World}{A:Around}{E:Value->Shared->Prop}{s:Shared}
end
section
variable{X:Cx}
end
end L2
namespace Att
open PySem PySem.W PySem.Calls PyProof.Rows
theorem gN{P:Params}:∀(ns:List Int) (vs:List Value),WellAll P h vs (ns.map WData.int)->Ou vs ns:=by
 intro ns
 induction ns with
 | nil=>
  intro vs w;rw[Ii]at w;cases w;exact .nil
 | cons n ns ih=>
  intro vs w;rw[Fw]at w;cases w with
  | cons a b=>
   cases a;exact .cons _ _ (ih _ b)
theorem o9{l:OpenLaw}(hn:l.most=some n){P:Params}{args:List WData}{vals:List Value}
  (hpre:l.row.toRowW.claim.pre args=true) (hwl:WellAll P h vals args) :
  ∃a vs ns,vals=[Fi a]/\args=[WData.list (ns.map WData.int)]/\h.get? a=some { cls:=.type "list",data:=.seq vs.toArray }/\Ou vs ns/\ns.length<=n:=by
 have hsh:WShape.hasAll [] args [.list .int]=true:=(pre_splitW hpre).1;have hc:l.pre.holds [] { args:=args }=true:=(pre_splitW hpre).2;obtain⟨d,r,rfl,h1,h2⟩:=hasAllW_cons hsh;obtain rfl:=hasAllW_nil h2;obtain⟨xs,rfl,h3⟩:=hasW_list h1;obtain⟨ns,rfl⟩:=items_int h3;have hlen:ns.length<=n:=by
  unfold OpenLaw.pre at hc;have h4:(WTm.not (.lt (.lit (.int (n:Int))) (.len (.arg 0)))).holds [] { args:=[.list (ns.map .int)] }=true:=by
   have h4:=(holds_andW hc).1;rw[hn]at h4;exact h4
  have h5:=condW_of h4 (w_not (w_lt w_lit (w_len_list (w_arg rfl))));rw[EE]at h5;refine Nat.le_of_not_lt λq=>?_
  have q':(n:Int)<((ns.length:Nat):Int):=by lia
  first
   | (rw[decide_eq_true q']at h5;exact absurd h5 (by decide))
   | (simp at h5;lia)
 cases hwl with
 | cons w1 w2=>
  cases w2;cases w1 with
  | list ho hall=>exact⟨_,_,ns,rfl,rfl,ho,gN ns _ hall,hlen⟩
theorem pb(l:OpenLaw)(args:List WData):l.row.toRowW.claim.post args (.bool true) args=true:=
 postW_of (r:=l.row.toRowW) (X:=(true == true))
  (show WShape.has [] (.bool true) .bool=true by first|rfl|decide|simp[WShape.has,WShape.arms,WShape.armsAll])
  (show(WTm.eq .res (.lit (.bool true))).value [] { args:=args,res:=some (.bool true),after:=args }=some (.bool (true == true))from w_eq_bool (w_res rfl) w_lit) rfl
theorem lj{l:OpenLaw}{q:Program}{loose:List Str}{XP:(Str->Option Value)->Heap->Prop}{YP:World->Heap->Prop}{d:DefRec}
  (hn:l.most=some n) (hdf:d.params.defaults=[])
  (call:∀(w:World) (s₀ s₁:Shared) (mg mb:Str->Option Value) (fa:Addr) (o:Obj) (pm cd doc:Value) (a:Addr) (vs:List Value) (ns:List Int),
   Ground q loose [] XP w s₀ mg mb s₁.heap->YP w s₁.heap->
   s₁.heap.get? fa=some o->o.data=.func (docDef d.name d.params d.body d.scope pm cd doc)->s₁.heap.CodeRec cd d.name->mg d.name=some (.ref fa)->
   s₁.heap.get? a=some { cls:=.type "list",data:=.seq vs.toArray }->Ou vs ns->ns.length<=n->s₁.gens=#[]->
   codeAny (model l.prog w) callerA (.call (.ref fa) ⟨[.ref a],[]⟩) (λr s'=>r=.ok (.ret (.bool true))/\OldK s₁.heap s'.heap/\s'.os=s₁.os/\AllBare s'.gens) s₁) :
  WalkO q loose XP YP l.row.toRowW d [] (λf vs=>Lx f vs):=by
 intro w s₀ s₁ mg mb G Y fa o pm cd doc dV kV ho hd hcd hD hmg hg args vals as hpre hlay hrd hwl hlo;obtain rfl:dV=.none:=Dflts.none hD hdf;obtain rfl:kV=.none:=Dflts.noKw hD;obtain⟨a,vs,ns,rfl,rfl,hobj,hints,hlen⟩:=o9 hn hpre hwl;refine enter_call (OJ (call w s₀ s₁ mg mb fa o pm cd doc a vs ns G Y ho (fd_plain hd) hcd hmg hobj hints hlen hg) λr s' hq=>?_);obtain⟨rfl,h2,h3,h4⟩:=hq;exact⟨.inl ⟨.bool true,.bool true,[],rfl,λ_=>rfl,.bool true,pb l _,λ_=>⟨NO,λ_ hm=>(nomatch hm)⟩⟩,h2,h3,h4⟩
section
variable{prog:Program}{w:World}{A:Around}{E:Value->Shared->Prop}{s:Shared}{K:Frag}
end
end Att
namespace L2
open PySem PySem.Spec PyProof.Rows
theorem j6:∀{vs:List Value}{ns:List Int},Ou vs ns->Vals (ns.map N7) vs
 | _,_,.nil=>.nil
 | _,_,.cons n t h=>.cons ⟨t,rfl⟩ (j6 h)
noncomputable def fL(s:Stmt)(j:Nat):Stmt:=match s with
 | .ClassDef _ _ _ body _ _ _ _ _ _ _=>body.getD j (.Pass ⟨0,0,0,0⟩)
 | _=>.Pass ⟨0,0,0,0⟩
noncomputable def dN(s:Stmt):Arguments:=match s with
 | .FunctionDef _ a _ _ _ _ _ _ _ _=>a
 | _=>{ posonlyargs:=[],args:=[],vararg:=none,kwonlyargs:=[],kw_defaults:=[],kwarg:=none,defaults:=[] }
noncomputable def cB(s:Stmt):List Stmt:=match s with
 | .FunctionDef _ _ b _ _ _ _ _ _ _=>b
 | _=>[]
noncomputable def aL(s:Stmt):Scope:=match s with
 | .FunctionDef _ _ _ _ _ _ sc _ _ _=>sc
 | _=>{ kind:=.function,names:=[],isGenerator:=false,isCoroutine:=false }
noncomputable abbrev CX0:CXT:=λ_ _ _ _ _ _=>False
noncomputable abbrev E0:XK:=λ_ _ _=>False
theorem fM:dM CX0 X E0:=λ_ _ _ _ _ _ _ h=>h.elim
structure Fun (K:EG) (x qual:Str) (st:Stmt) (f:Addr) (fd:FuncData):Prop where
 ex:∃(oc:Value) (od:Option Addr) (kV doc pm:Value) (an:Option Addr) (cdv ct:Value) (osl:Array (Option Value)),
  fd=Gk x qual (dN st) (cB st) (aL st) .none kV doc pm an cdv ct/\K.lookup f=some ⟨oc,od,.func fd,osl⟩/\ID K cdv qual=true
 kp:FZ K (.ref f)=true
section
variable{P:Program}{w:World}{K:EG}{mg:Str->Option Value}{base:Heap}
theorem Fun.ok{st:Stmt}{f:Addr}{fd:FuncData}{N ps:List Str}{sp:Sp}(F:Fun K x qual st f fd)(S:FnScope N ps (aL st))(len:∀vs H Q E,sp vs H Q E->vs.length=ps.length)
  (hbody:∀(cdv:Value) (A:Around) (outer:List Env) (s:Shared) (H:Hp) (vs:List V) (Q:VK) (E:XK),Room k (A.deeper (envOfC qual (aL st) s.heap.objs.size f cdv))->sp vs H Q E->
   ∃t,PSs (sH CX0 P w K mg base N qual (aL st) f cdv A outer s H E).nox (cB st) t/\t { nx:=λ_ H'=>Q .non H',rt:=Q } (dq N vs) H):FnOk P w K mg base CX0 (k+1) f fd ps sp:=by
 obtain⟨oc,od,kV,doc,pm,an,cdv,ct,osl,rfl,lk,hcd⟩:=F.ex;refine zu lk hcd S len λA outer s H vs Q E hr hsp=>?_
 obtain⟨t,h,q⟩:=hbody cdv A outer s H vs Q E hr hsp;exact⟨t,h.nox,q⟩
theorem Fun.binds{st:Stmt}{f:Addr}{fd:FuncData}{ps:List Str}(F:Fun K x qual st f fd)
  (h:∀(kV doc pm:Value) (an:Option Addr) (cdv ct:Value) (us:List Value),us.length=ps.length->bindArgs (Gk x qual (dN st) (cB st) (aL st) .none kV doc pm an cdv ct) ⟨us,[]⟩=pure (ps.zip us)):Binds K fd ps []:=by
 obtain⟨oc,od,kV,doc,pm,an,cdv,ct,osl,rfl,lk,hcd⟩:=F.ex;exact .all (h kV doc pm an cdv ct)
theorem uT{st:Stmt}{f:Addr}{oc:Value}{od an:Option Addr}{osl:Array (Option Value)}{kV doc cdv ct:Value}(l:K.lookup f=some ⟨oc,od,.func (Gk x qual (dN st) (cB st) (aL st) .none kV doc pm an cdv ct),osl⟩)
  (c:ID K cdv qual=true) (k:FZ K (.ref f)=true):Fun K x qual st f (Gk x qual (dN st) (cB st) (aL st) .none kV doc pm an cdv ct):=⟨⟨oc,od,kV,doc,pm,an,cdv,ct,osl,rfl,l,c⟩,k⟩
end
theorem ar(h:n<=1000):n<sizeLine:=FC h (by decide)
section
variable{X:Cx}
end
def Same(H H':Hp):Prop:=∀b o,H b=some o->H' b=some o
theorem Same.refl(H:Hp):Same H H:=λ_ _ h=>h
theorem Same.trans{H:Hp}(a:Same H H1)(b:Same H1 H2):Same H H2:=λc o h=>b c o (a c o h)
theorem Same.free{H:Hp}(e:Same H H')(h:H' l=MY):H l=MY:=by
 cases q:H l with
 | none=>rfl
 | some o=>
  rw[e l o q]at h;cases h
theorem Same.seq{K:EG}{H:Hp}(e:Same H H')(h:SqL K H a xs):SqL K H' a xs:=by
 rcases h with(h|⟨o,h⟩)|h
 ·exact .inl (.inl (e _ _ h))
 ·exact .inl (.inr ⟨o,e _ _ h⟩)
 ·exact .inr h
section
variable{X:Cx}{pins:List (Addr×Obj)}{σ:St}{H:Hp}{s:Shared}
theorem Inv.adopt{D:Addr}(I:Inv X pins σ H s)(hn:H D=none)(hL:D≠X.env.locals)
  (h1:D∈X.ex\/X.s₀.heap.objs.size<=D) (h2:∀x c,X.env.cells.lookup x=some c->c≠D) (h3:∀p∈X.pn++pins,p.1≠D)
  (new:ObjOk X.prog X.w (upd H D o) s.heap D o):Inv X pins σ (upd H D o) s:=by
 have nit:∀b u,H b=some u->b≠D:=λb u e z=>by rw[z,hn]at e;cases e
 have keep:∀b u,H b=some u->upd H D o b=some u:=λb u e=>by rw[ak (nit b u e)];exact e
 refine I.step (h':=s.heap) (g':=s.gens) (d':=s.drawn) (t':=s.toks) (ch:=[D]) (λb hb=>?_) (λb o _ _ _ e _=>e) (λb o _ _ _ e _=>⟨o.slots,e⟩) (λb u hc e n=>?_)
  (λb o _ e=>⟨o,e⟩) (λb xs e=>keep b _ e) (λb o u e=>keep b _ e) (λb ps e=>⟨#[],by rw[keep b _ e];simp⟩) (λm hm=>hm) (λb u e=>?_) I.bare
 ·have e:b=D:=by simpa using hb
  subst e;exact⟨h1,hL,h2,h3⟩
 ·rw[ak (λz=>hc (by simp[z]))];exact n
 ·by_cases hb:b=D
  ·subst hb;rw[ae]at e;cases e;exact new
  ·rw[ak hb]at e
   exact(I.hok b u e).stay (λc v _ q=>q) (λc q=>keep c _ q) λc xs q=>keep c _ q
end
noncomputable def ay(X:Cx)(N:List Str)(scope:Scope)(cl:List (Str×Addr))(fp:List Addr)(C:Addr)(s:Shared)(H:Hp):Cx:=
 { X with N:=N,s₀:=s,H₀:=H,env:=compEnvC scope cl C X.env,outer:=X.stack,ex:=fp,fn:=λ_=>false,pn:=[],xe:=λ_ _=>False }
noncomputable def FrOk(X:Cx)(scope:Scope)(cl:List (Str×Addr)):List Str->Prop
 | []=>True
 | x::r=>(X.env.kindOf x=some .cell/\(relabel scope X.env).names.lookup x=some .cell/\∃c,cl.lookup x=some c/\X.env.cells.lookup x=some c)/\FrOk X scope cl r
theorem FrOk.mem{X:Cx}{scope:Scope}{cl:List (Str×Addr)}:∀{l:List Str},FrOk X scope cl l->∀x∈l,
  X.env.kindOf x=some .cell/\(relabel scope X.env).names.lookup x=some .cell/\∃c,cl.lookup x=some c/\X.env.cells.lookup x=some c
 | [],_,_,h=>nomatch h
 | y::r,⟨h1,h2⟩,x,h=>by
  rcases EO.mp h with e|e
  ·subst e;exact h1
  ·exact FrOk.mem h2 x e
noncomputable def ClOk(X:Cx):List (Str×Addr)->Prop
 | []=>True
 | p::r=>X.env.cells.lookup p.1=some p.2/\ClOk X r
theorem ClOk.get{X:Cx}:∀{l:List (Str×Addr)},ClOk X l->∀x c,l.lookup x=some c->X.env.cells.lookup x=some c
 | [],_,_,_,h=>by simp at h
 | p::r,⟨h1,h2⟩,x,c,h=>by
  obtain⟨n,a⟩:=p;cases e:x == n with
  | true=>
   have e':x=n:=by simpa using e
   subst e';simp only[Fg,e]at h;cases h;exact h1
  | false=>
   simp only[Fg,e]at h;exact ClOk.get h2 x c h
structure CompOk (X:Cx) (N tgs frs:List Str) (ix:List Nat) (scope:Scope) (cl:List (Str×Addr)):Prop where
 clos:closureFor scope X.env=pure cl
 cell:∀y∈scope.names,y.2≠.cell
 kind:scope.kind=.function
 names:∀y∈scope.names,y.2=.local->scope.names.lookup y.1=some .local
 nm:N=tgs++frs
 ixs:ix.map (X.N[·]?)=frs.map some
 fr:FrOk X scope cl frs
 cls:ClOk X cl
 has:(relabel scope X.env).names.all (λp=>!(p.2 == .cell || p.2 == .free) || (cl.lookup p.1).isSome)=true
noncomputable def dO(tgs:List Str)(ix:List Nat)(σ:St):St:=E2 tgs.length none++ix.map λj=>(σ[j]?).getD none
section
variable{X:Cx}{N tgs frs:List Str}{ix:List Nat}{scope:Scope}{cl:List (Str×Addr)}
theorem nL(c:CompOk X N tgs frs ix scope cl)(h1:N[i]? = some x)(h2:(dO tgs ix σ)[i]? = some (some v)):x∈frs/\∃j:Nat,X.N[j]? = some x/\σ[j]? = some (some v):=by
 unfold dO at h2;by_cases hi:i<tgs.length
 ·rw[E6 (by simpa using hi),GR,if_pos hi]at h2
  cases h2
 ·rw[E8 (by simpa using hi),G6,EN]at h2
  rw[c.nm,E8 ⋯]at h1;have e:=congrArg (·[i - tgs.length]?) c.ixs;simp only[EN,h1]at e;cases q:ix[i - tgs.length]? with
  | none=>rw[q]at e;cases e
  | some j=>
   rw[q]at e h2;simp only[Jx,KS]at e h2;refine⟨ES h1,j,e,?_⟩;cases z:σ[j]? with
   | none=>rw[z]at h2;cases h2
   | some o=>rw[z]at h2;simp at h2;rw[h2]
theorem eF{l:List (Str×NameKind)}{k:NameKind}(h:l.lookup x=some k):(x,k)∈l:=Gr h
theorem CompOk.hasOf(c:CompOk X N tgs frs ix scope cl)(h:(relabel scope X.env).names.lookup x=some .cell\/(relabel scope X.env).names.lookup x=some .free):∃a,cl.lookup x=some a:=by
 have all:=F4.mp c.has;rcases h with h|h
 ·have q:=all _ (eF h)
  exact F2.mp (by simpa only[beq_self_eq_true,Kq,IR,HU]using q)
 ·have q:=all _ (eF h)
  exact F2.mp (by simpa only[beq_self_eq_true,MK,IR,HU]using q)
theorem mi{H:Hp}{s2:Shared}{h1:Heap}{tk:Nat}{m:Str->Option Value}(c:CompOk X N tgs frs ix scope cl)(I:Inv X pins σ H s2)(hf:∀b∈fp,ox X pins H b)(hfl:∀b∈fp,b<s2.heap.objs.size)
  (hC:s2.heap.objs.size<=C) (hns:h1.Ns C m) (hk:∀b o,s2.heap.get? b=some o->h1.get? b=some o){pins':List (Addr×Obj)}
  (hpin:∀p∈pins',h1.get? p.1=some p.2/\s2.heap.objs.size<=p.1/\p.1≠C/\∀v,p.2.data≠.cell v) :
  Inv (ay X N scope cl fp C s2 H) pins' (dO tgs ix σ) H { s2 with heap:=h1,toks:=tk }:=by
 have hcn:∀x a,cl.lookup x=some a->X.env.cells.lookup x=some a:=c.cls.get
 have clt:∀x a,cl.lookup x=some a->a<s2.heap.objs.size:=λx a e=>by
  obtain⟨v,q⟩:=I.cell x a (hcn x a e);exact q.lt
 refine⟨⟨I.ok.mod,c.kind,I.ok.glob,I.ok.blt,hC,λx y a h1 h2=>I.ok.inj x y a (hcn _ _ h1) (hcn _ _ h2),λx hx=>c.hasOf hx,(λx a z _=>Bool.noConfusion z),I.ok.hd,I.ok.frames,.inl rfl,λb hb=>⟨?_,λx a e=>?_⟩,I.bs,FB I.ok.bsz I.sz,λb o e hb=>?_,λb hb z=>?_,I.stack,I.stkFree⟩,
  rfl,I.bare,Un.kept hk,⟨m,hns,λi x v e1 e2 e3=>?_⟩,λx a e=>?_,I.hok.fresh hC,λx a e=>I.freeC x a (hcn x a e),λp hp=>?_,I.hok.kept hk,?_⟩
 ·exact Fc (Fb (hfl b hb) hC)
 ·exact(hf b hb).2.2.2.2.1 x a (hcn x a e)
 ·rcases(hf b hb).2.2.2.1 with z|z
  ·exact I.ok.noex b o e z
  ·exact absurd (Fb (EV (I.ok.bs b o e).1) z) (FM _)
 ·rcases EO.mp (I.stkSub b z)with e|e
  ·exact(hf b hb).2.1 e
  ·exact(hf b hb).2.2.1 e
 ·obtain⟨hx,j,n1,n2⟩:=nL c e1 e2
  obtain⟨k1,k2,a,l1,l2⟩:=c.fr.mem x hx;obtain⟨m',_,hl⟩:=I.loc;obtain⟨u,r,l⟩:=hl j x v n1 n2 (.inr (.inl k1));refine⟨u,r,.inr ⟨.inl k2,a,l1,?_⟩⟩;rcases l with⟨l,_⟩|⟨_,a',l3,o,l4,l5⟩
  ·rw[k1]at l;cases l
  ·rw[l2]at l3;cases l3
   exact⟨o,hk _ _ l4,l5⟩
 ·obtain⟨v,o,q1,q2⟩:=I.cell x a (hcn x a e)
  exact⟨v,o,hk _ _ q1,q2⟩
 ·have hp':p∈pins':=by simpa [ay]using hp
  obtain⟨q1,q2,q3,q4⟩:=hpin p hp';exact⟨q1,I.hok.fresh q2,q3,λz=>by
   rcases EO.mp (I.stkSub p.1 z)with e|e
   ·exact absurd (Fb I.lt q2) (by rw[e];exact FM _)
   ·exact I.nofs q2 e,q4⟩
 ·show(dO tgs ix σ).length=N.length
  unfold dO;have e:=congrArg GX c.ixs;simp only[EE]at e;rw[c.nm];simp[e]
theorem j7{prog:Program}{w:World}{A:Around}{R:Result->Shared->Prop}{s:Shared}{elt target iter:Expr}{pos:Pos}{env:Env}(I:Nat->Shared->Prop)
  (turn:∀n s,I n s->wpAny (model prog w) A (pyNext it) (λr s1=>match r with
   | none=>R (.ok .next) s1
   | some v=>wpAny (model prog w) A (letOwnedTupleGo target it v) (λ_ s1'=>wpAny (model prog w) A (assign target env v) (λ_ s2=>wpAny (model prog w) A (eval elt env) (λx s3=>
     wpAny (model prog w) A (call (.builtin "list.append") [acc,x]) (λ_ s4=>∃m,m<n/\I m s4) (λ_ _=>False) s3)
     (λ_ _=>False) s2) (λ_ _=>False) s1') (λ_ _=>False) s1) (λ_ _=>False) s)
  (n:Nat) (h:I n s) :
  codeAny (model prog w) A (.compLoop (.ListComp elt [⟨target,iter,[],0⟩] scope pos) 0 it acc env) R s:=by
 have up:∀{α:Type}{t:Sem α}{Q Q':α->Shared->Prop}{E:Value->Shared->Prop}{s:Shared},wpAny (model prog w) A t Q (λ_ _=>False) s->(∀a s,Q a s->Q' a s)->wpAny (model prog w) A t Q' E s:=λh hq=>Om h hq λ_ _ f=>f.elim
 refine codeAny_loop rfl I (λn s hI=>?_) n h;show wpAny _ _ ((compTurn (.ListComp elt [⟨target,iter,[],0⟩] scope pos) 0 it acc env).onRaise (λx=>do noteFrame x env;theTreesLotGoes x)) _ _ s
 refine wpAny_noted ?_;rw[compTurn_list1];refine Oh (Ot (Oh (up (turn n s hI) (λr s1 h1=>?_))));cases r with
 | none=>exact Oi h1
 | some v=>
  refine Oh (up h1 λ_ s1' h1'=>?_);exact Oh (up h1' (λ_ s2 h2=>Oh (Oh (up h2 (λx s3 h3=>Oh (up h3
   (λ_ s4 h4=>Oi (Oi ⟨rfl,h4⟩))))))))
def pd(wi:TI)(g:TG)(te:TE)(tgs:List Str)(ix:List Nat):TE:=λσ H Q=>wi σ H λJ H1=>
 ∃W:Nat->Nat->List V->St->Hp->Prop,(∃m,W 0 m [] (dO tgs ix σ) H1)/\∀i m xs σc H,W i m xs σc H->xs.length<sizeLine/\
  ((J.stop i H/\∀p,H p=none->Q (.ref p) (upd H p (.lst xs)))\/(J.go i H/\∀x H',J.yld i H x H'->g x σc H' λσ2 H2=>te σ2 H2 λy H3=>∃m',m'<m/\W (i+1) m' (xs++[y]) σ2 H3))
noncomputable abbrev bC (us:List Value) (k:Nat):Obj:={ cls:=.type "list",data:=.seq us.toArray k }
theorem ji{prog:Program}{w:World}{A:Around}{R:Result->Shared->Prop}{s:Shared}{elt target iter cnd:Expr}{pos:Pos}{env:Env}(I:Nat->Shared->Prop)
  (turn:∀n s,I n s->wpAny (model prog w) A (pyNext it) (λr s1=>match r with
   | none=>R (.ok .next) s1
   | some v=>wpAny (model prog w) A (letOwnedTupleGo target it v) (λ_ s1'=>wpAny (model prog w) A (assign target env v) (λ_ s2=>wpAny (model prog w) A (isTrue cnd env (eval cnd env)) (λb s2'=>if b=true then wpAny (model prog w) A (eval elt env) (λx s3=>
     wpAny (model prog w) A (call (.builtin "list.append") [acc,x]) (λ_ s4=>∃m,m<n/\I m s4) (λ_ _=>False) s3)
     (λ_ _=>False) s2' else ∃m,m<n/\I m s2') (λ_ _=>False) s2) (λ_ _=>False) s1') (λ_ _=>False) s1) (λ_ _=>False) s)
  (n:Nat) (h:I n s) :
  codeAny (model prog w) A (.compLoop (.ListComp elt [⟨target,iter,[cnd],0⟩] scope pos) 0 it acc env) R s:=by
 have up:∀{α:Type}{t:Sem α}{Q Q':α->Shared->Prop}{E:Value->Shared->Prop}{s:Shared},wpAny (model prog w) A t Q (λ_ _=>False) s->(∀a s,Q a s->Q' a s)->wpAny (model prog w) A t Q' E s:=λh hq=>Om h hq λ_ _ f=>f.elim
 refine codeAny_loop rfl I (λn s hI=>?_) n h;show wpAny _ _ ((compTurn (.ListComp elt [⟨target,iter,[cnd],0⟩] scope pos) 0 it acc env).onRaise (λx=>do noteFrame x env;theTreesLotGoes x)) _ _ s
 refine wpAny_noted ?_;rw[compTurn_list];refine Oh (Ot (Oh (up (turn n s hI) (λr s1 h1=>?_))));cases r with
 | none=>exact Oi h1
 | some v=>
  refine Oh (up h1 λ_ s1' h1'=>?_);refine Oh (up h1' λ_ s2 h2=>?_);simp only[List.forIn_cons,List.forIn_nil,if_true];refine Oh (Oh (Oh (up h2 λb s3 h3=>Oi (Oi ?_))));cases b with
  | true=>
   rw[if_pos rfl]at h3;show wpAny _ _ (if true=true then _ else _) _ _ _
   rw[if_pos rfl];exact Oh (Oh (up h3 (λx s4 h4=>Oh (up h4 (λ_ s5 h5=>Oi (Oi ⟨rfl,h5⟩))))))
  | false=>
   rw[if_neg (by decide)]at h3;show wpAny _ _ (if false=true then _ else _) _ _ _
   rw[if_neg (by decide)];exact Oi ⟨rfl,h3⟩
def elB(M:Model)(A:Around)(E:Value->Shared->Prop)(oc:Option Expr)(elt:Expr)(env:Env)(K:Option Value->Shared->Prop)(s:Shared):Prop:=match oc with
 | none=>wpAny M A (eval elt env) (λx s'=>K (some x) s') E s
 | some c=>wpAny M A (isTrue c env (eval c env)) (λb s1=>if b=true then wpAny M A (eval elt env) (λx s'=>K (some x) s') E s1 else K none s1) E s
theorem elB.mono{M:Model}{A:Around}{oc:Option Expr}{env:Env}{K K':Option Value->Shared->Prop}{s:Shared}(h:elB M A E oc elt env K s)(k:∀r s',K r s'->K' r s'):elB M A E oc elt env K' s:=by
 cases oc with
 | none=>exact Om h (λx s' e=>k _ _ e) λ_ _ e=>e
 | some c=>
  refine Om h (λb s1 e=>?_) λ_ _ e=>e
  cases b with
  | true=>exact Om e (λx s' e=>k _ _ e) λ_ _ e=>e
  | false=>exact k _ _ e
theorem jj{prog:Program}{w:World}{A:Around}{R:Result->Shared->Prop}{s:Shared}{elt target iter:Expr}{oc:Option Expr}{pos:Pos}{env:Env}(I:Nat->Shared->Prop)
  (turn:∀n s,I n s->wpAny (model prog w) A (pyNext it) (λr s1=>match r with
   | none=>R (.ok .next) s1
   | some v=>wpAny (model prog w) A (letOwnedTupleGo target it v) (λ_ s1'=>wpAny (model prog w) A (assign target env v) (λ_ s2=>elB (model prog w) A (λ_ _=>False) oc elt env (λr s3=>match r with
     | none=>∃m,m<n/\I m s3
     | some x=>wpAny (model prog w) A (call (.builtin "list.append") [acc,x]) (λ_ s4=>∃m,m<n/\I m s4) (λ_ _=>False) s3) s2) (λ_ _=>False) s1') (λ_ _=>False) s1) (λ_ _=>False) s)
  (n:Nat) (h:I n s) :
  codeAny (model prog w) A (.compLoop (.ListComp elt [⟨target,iter,oc.toList,0⟩] scope pos) 0 it acc env) R s:=by
 cases oc with
 | none=>exact j7 I turn n h
 | some c=>exact ji I turn n h
noncomputable abbrev TB:=St->Hp->(Option V->Hp->Prop)->Prop
def PB(X:Cx)(oc:Option Expr)(elt:Expr)(tb:TB):Prop:=∀(pins:List (Addr×Obj)) (s:Shared) (σ:St) (H:Hp) (R:Option V->Hp->Prop),Inv X pins σ H s->tb σ H R->elB (model X.prog X.w) X.A X.xe oc elt X.env (λr s'=>∃H',Inv X pins σ H' s'/\match r with
 | none=>R none H'
 | some u=>∃y,RelV y u/\R (some y) H') s
noncomputable def tbE(te:TE):TB:=λσ H R=>te σ H λy H'=>R (some y) H'
noncomputable def tbF(tc:TT)(te:TE):TB:=λσ H R=>tc σ H λb H1=>if b=true then te σ H1 λy H'=>R (some y) H' else R none H1
theorem PB.no{X:Cx}{te:TE}(he:PE X elt te):PB X none elt (tbE te):=λpins s σ H R I h=>Om (he pins s σ H _ I h) (λu s' ⟨y,H',I',r,q⟩=>⟨H',I',y,r,q⟩) λ_ _ e=>e
theorem PB.ts{X:Cx}{te:TE}(hcd:PT X cnd tc)(he:PE X elt te):PB X (some cnd) elt (tbF tc te):=λpins s σ H R I h=>Om (hcd pins s σ H _ I h) (λb s1 ⟨H1,I1,q⟩=>by
 cases b with
 | true=>exact Om (he pins s1 σ H1 _ I1 q) (λu s' ⟨y,H',I',r,q⟩=>⟨H',I',y,r,q⟩) λ_ _ e=>e
 | false=>exact⟨H1,I1,q⟩) λ_ _ e=>e
def pe(wi:TI)(g:TG)(tb:TB)(tgs:List Str)(ix:List Nat):TE:=λσ H Q=>wi σ H λJ H1=>
 ∃W:Nat->Nat->List V->St->Hp->Prop,(∃m,W 0 m [] (dO tgs ix σ) H1)/\∀i m xs σc H,W i m xs σc H->xs.length<sizeLine/\
  ((J.stop i H/\∀p,H p=none->Q (.ref p) (upd H p (.lst xs)))\/(J.go i H/\∀x H',J.yld i H x H'->g x σc H' λσ2 H2=>tb σ2 H2 λr H3=>match r with
   | none=>∃m',m'<m/\W (i+1) m' xs σ2 H3
   | some y=>∃m',m'<m/\W (i+1) m' (xs++[y]) σ2 H3))
theorem j8{oc:Option Expr}{tb:TB}(c:CompOk X N tgs frs ix scope cl)(hc:X.calm=true)(hi:PI X tg iter wi)
  (hg:∀fp C s H,PG (ay X N scope cl fp C s H) tg g) (hb:∀fp C s H,PB (ay X N scope cl fp C s H) oc elt tb)
  (hs:∀x,Ol iter X.env x=pure x){use:Option (Value->Sem Unit)}{R:Value->Shared->Prop}{pins:List (Addr×Obj)}{s:Shared}{σ:St}{H:Hp}{Q:VK}
  (hfin:∀{H':Hp}{D C:Addr}{s':Shared}{m:Str->Option Value},Inv X pins σ H' s'->s'.heap.Ns C m->H' C=none->C≠X.env.locals->(C∈X.ex\/X.s₀.heap.objs.size<=C)->(∀x y,X.env.cells.lookup x=some y->y≠C)->(∀p∈X.pn++pins,p.1≠C)->C∉X.fs->Q (.ref D) H'->
   compPost (model X.prog X.w) X.A X.xe use R (.ref D) C (.ok .next) s')
  (I:Inv X pins σ H s) (h:pe wi g tb tgs ix σ H Q) :
  wpAny (model X.prog X.w) X.A (comprehension (.ListComp elt [⟨tg,iter,oc.toList,0⟩] scope pos) scope X.env pos' (newList []) false (eval iter X.env) use) R X.xe s:=by
 refine wpAny_comprehension_free (use:=use) rfl hs c.clos c.kind c.names (thn (hi pins s σ H _ I h) λxv s1 h1=>thn h1 λitv s2 h2=>?_);obtain⟨it,fp,tn,J,H2,rfl,I2,T,st2,f2,W,⟨m0,w0⟩,turn⟩:=h2;have hfl:∀b∈fp,b<s2.heap.objs.size:=λb hb=>by
  obtain⟨o,e,_⟩:=T.obj _ _ st2 b hb;exact EV e
 have hcn:∀x a,cl.lookup x=some a->X.env.cells.lookup x=some a:=c.cls.get
 refine wpAny_newObj_type (wpAny_newFunctionEnv c.cell (by intro y hy;simp at hy) (λh1 hns1 hsb1=>?_) c.kind);dsimp only at hns1 hsb1 ⊢;generalize hH2:s2.heap.push { cls:=.type "list",dict:=none,data:=.seq ([]:List Value).toArray }=G2 at hns1 hsb1 ⊢;have hC:G2.objs.size=s2.heap.objs.size+1:=by rw[<-hH2,Ht]
 generalize hCC:G2.objs.size=C at *;generalize hDD:s2.heap.objs.size=D at *;have hDC:D≠C:=by lia
 have hCle:D<=C:=by lia
 have old:∀b o,s2.heap.get? b=some o->h1.get? b=some o:=λb o e=>by
  have lt:b<s2.heap.objs.size:=EV e;exact hsb1.extBut b o (Fc (Fb (hDD▸lt) hCle)) (EJ _ (hH2▸EJ _ e))
 have hacc:h1.get? D=some (bC [] 0):=hsb1.extBut _ _ hDC (EJ _ (hH2▸(hDD▸E5 _ rfl)));have cellD:∀x a,X.env.cells.lookup x=some a->a<D:=λx a e=>by
  obtain⟨v,q⟩:=I2.cell x a e;exact hDD▸q.lt
 have fpc:∀{H':Hp}{us:List Value}{k:Nat},(∀b∈fp,H' b=none)->∀b∈fp,ox (ay X N scope cl fp C s2 H2) [(D,bC us k)] H' b:=λ{H' us k} hn b hb=>by
  have lb:=hfl b hb;refine⟨hn b hb,?_,λz=>?_,.inl hb,λx a e z=>?_,λp hp=>?_⟩
  ·exact Fc (Fb lb hCle)
  ·rcases EO.mp (I2.stkSub b z)with e|e
   ·exact(f2 b hb).2.1 e
   ·exact(f2 b hb).2.2.1 e
  ·exact(f2 b hb).2.2.2.2.1 x a (hcn x a e) z
  ·have:p=(D,bC us k):=by simpa [ay]using hp
   rw[this];exact GL lb
 have D_fs:D∉(ay X N scope cl fp C s2 H2).fs:=λz=>by
  rcases EO.mp (I2.stkSub D z)with e|e
  ·exact absurd I2.lt (by rw[<-e,hDD];exact FM _)
  ·exact I2.nofs (GB hDD) e
 have I3:=mi (tk:=s2.toks+([]:List (Str×Value)).length) (pins':=[(D,bC [] 0)]) c I2 f2 (λb hb=>hDD▸hfl b hb) (hDD▸hCle:s2.heap.objs.size<=C) hns1 old (λp hp=>by
  have e:p=(D,bC [] 0):=by simpa using hp
  subst e;exact⟨hacc,GB hDD,hDC,λv z=>by cases z⟩)
 have tn3:tn 0 h1:=T.keep _ _ _ st2 λb _ o e=>old b o e
 have loop:codeAny (model X.prog X.w) X.A (.compLoop (.ListComp elt [⟨tg,iter,oc.toList,0⟩] scope pos) 0 (.ref it) (.ref D) (compEnvC scope cl C X.env))
   (compPost (model X.prog X.w) X.A X.xe use R (.ref D) C) { s2 with heap:=h1,toks:=s2.toks+([]:List (Str×Value)).length }:=by
  refine jj (λn s'=>∃i xs us k σc H',Inv (ay X N scope cl fp C s2 H2) [(D,bC us k)] σc H' s'/\tn i s'.heap/\(∀b∈fp,H' b=none)/\Vals xs us/\W i n xs σc H') ?_ m0
   ⟨0,[],[],0,_,H2,I3,tn3,λb hb=>(f2 b hb).1,.nil,w0⟩
  rintro n s4 ⟨i,xs,us,k,σ4,H4,I4,tn4,fr4,rv,w4⟩;obtain⟨hsz,tt⟩:=turn i n xs σ4 H4 w4;rcases tt with⟨stop,fin⟩|⟨go,step⟩
  ·refine thn (T.done (ay X N scope cl fp C s2 H2) rfl rfl rfl hc i _ s4 σ4 H4 _ I4 (fpc fr4) tn4 stop) λr s5 ⟨hr,I5⟩=>?_
   subst hr;obtain⟨m,ns,_⟩:=I5.loc;have J1:Inv X pins σ H4 s5:=I2.call' I5.os I5.base I5.hok I5.bare λb hb=>⟨(f2 b hb).2.2.2.1,(f2 b hb).2.1,(f2 b hb).2.2.2.2.1,(f2 b hb).2.2.2.2.2⟩
   have big:∀a,D<=a->a≠X.env.locals/\(a∈X.ex\/X.s₀.heap.objs.size<=a)/\(∀x y,X.env.cells.lookup x=some y->y≠a)/\∀p∈X.pn++pins,p.1≠a:=λa ha=>by
    obtain⟨q0,q1,q2,q3,q4,q5⟩:=I2.fpOk (b:=a) (H':=λ_=>none) (hDD▸ha) rfl;exact⟨q1,q3,q4,q5⟩
   obtain⟨b1,b2,b3,b4⟩:=big C hCle;obtain⟨p1,p2,p3,p4,p5⟩:=I5.pin (D,bC us k) (by simp);obtain⟨d1,d2,d3,d4⟩:=big D (EI _);exact hfin (J1.adopt (D:=D) (o:=.lst xs) p2 d1 d2 d3 d4 ⟨Gy hsz,us,k,rv,p1⟩) ns (by rw[ak (E7 hDC)];exact I5.free) b1 b2 b3 b4 (I2.nofs (hDD▸hCle)) (fin D p2)
  ·refine thn (T.item (ay X N scope cl fp C s2 H2) rfl rfl rfl hc i _ s4 σ4 H4 _ I4 (fpc fr4) tn4 go) λr s5 ⟨u,hr,h5⟩=>?_
   subst hr;refine thn h5 λ_ s6 ⟨x,H6,I6,r6,y6,tn6,fr6⟩=>?_
   have I6':=I6.pinned (fpc fr6) (T.obj _ _ tn6);refine thn (hg fp C s2 H2 _ s6 σ4 H6 x u _ I6' r6 (step x H6 y6)) λ_ s7 ⟨σ7,H7,I7,q7⟩=>?_
   refine(hb fp C s2 H2 _ s7 σ7 H7 _ I7 q7).mono λr s8 ⟨H8,I8,q8⟩=>?_
   have tn8:tn (i+1) s8.heap:=T.keep _ _ _ tn6 λb hb o e=>(I8.pin (b,o) (ET _ (ET _ (cj hb e)))).1
   have fr8:∀b∈fp,H8 b=none:=λb hb=>by
    obtain⟨o,e,d⟩:=T.obj _ _ tn6 b hb;exact(I8.pin (b,o) (ET _ (ET _ (cj hb e)))).2.1
   cases r with
   | none=>
    obtain⟨m',hm,w8⟩:=q8;exact⟨m',hm,i+1,xs,us,k,σ7,H8,I8.unpinned,tn8,fr8,rv,w8⟩
   | some yv=>
   obtain⟨y,r8,m',hm,w8⟩:=q8;obtain⟨p1,p2,p3,p4,p5⟩:=I8.pin (D,bC us k) (by simp[ay]);have hsz':us.toArray.size<=sizeLine:=by simp;rw[<-rv.length];exact Gy hsz
   refine wpAny_list_append_plain (hsz:=hsz') ⟨k,p1⟩ λh' pl sb=>?_
   have I9:Inv (ay X N scope cl fp C s2 H2) [] σ7 H8 s8:=I8.pins_of λp hp=>nomatch hp
   have I10:Inv (ay X N scope cl fp C s2 H2) [] σ7 H8 { s8 with heap:=h' }:=I9.turned (t':=s8.toks) (it:=D) (λb o hb e=>sb.extBut b o hb e) p2 p3 (.inr (GB hDD))
    (λx a e=>Fc (cellD x a (hcn x a e))) (λp hp=>by simp[ay]at hp)
   obtain⟨k',pl⟩:=pl;have eu:us.toArray.push yv=(us++[yv]).toArray:=by simp
   rw[eu]at pl;have I11:Inv (ay X N scope cl fp C s2 H2) [(D,bC (us++[yv]) k')] σ7 H8 { s8 with heap:=h' }:=I10.pins_of λp hp=>by
    have e:p=(D,bC (us++[yv]) k'):=by simpa using hp
    subst e;exact⟨pl,p2,p3,p4,λv z=>by cases z⟩
   exact⟨m',hm,i+1,xs++[y],us++[yv],k',σ7,H8,I11,T.keep _ _ _ tn8 λb hb o e=>sb.extBut b o (Fc (hfl b hb)) e,fr8,rv.append (.cons r8 .nil),w8⟩
 exact codeAny_compStart_list loop (T.self _ 0 _ _ _ tn3 loop)
theorem zD{D:Addr}{m:Str->Option Value}(J:Inv X pins σ H' s')(ns:s'.heap.Ns C m)(hC:H' C=none)(b1:C≠X.env.locals)(b2:C∈X.ex\/X.s₀.heap.objs.size<=C)(b3:∀x y,X.env.cells.lookup x=some y->y≠C)(b4:∀p∈X.pn++pins,p.1≠C)(_:C∉X.fs)(q:Q (.ref D) H'):
  compPost (model X.prog X.w) X.A X.xe none (EP X pins σ Q) (.ref D) C (.ok .next) s':=
 ⟨m,ns,λh' sb=>⟨.ref D,H',J.turned (t':=s'.toks) (λb o hb e=>sb.extBut b o hb e) hC b1 b2 b3 b4,rfl,q⟩⟩
theorem zE{Dn:Ends}(hN:X.N.Nodup)(hy:X.N[iy]? = some y)(hx:Loc X.env.scope y)(hf:X.fn y=true\/X.env.scope.names.lookup y=some .local){D:Addr}{m:Str->Option Value}(J:Inv X pins σ H' s')(ns:s'.heap.Ns C m)(hC:H' C=none)(b1:C≠X.env.locals)(b2:C∈X.ex\/X.s₀.heap.objs.size<=C)(b3:∀x y,X.env.cells.lookup x=some y->y≠C)(b4:∀p∈X.pn++pins,p.1≠C)(nf:C∉X.fs)(q:Dn.nx (σ.set iy (some (.ref D))) H'):
  compPost (model X.prog X.w) X.A X.xe (some (assign (.Name y py) X.env)) (λ_ s'=>SP X pins Dn .next s') (.ref D) C (.ok .next) s':=by
 obtain⟨oC,esC,epC,hoC,hdC,rC⟩:=id ns;have J4:Inv X (pins++[(C,oC)]) σ H' s':=J.pins_of λp hp=>by
  rcases Fq.mp hp with z|z
  ·exact J.pin p (ET _ z)
  ·have e:p=(C,oC):=by simpa using z
   subst e;exact⟨hoC,hC,b1,nf,λv z=>by rw[hdC]at z;cases z⟩
 show wpAny _ X.A (assign (.Name y py) X.env (.ref D)) _ _ s'
 refine wpAny_assign_Name (eD J4 hN hy hx (v:=.ref D) rfl (λs6 J5=>?_) hf);have hC6:=(J5.pin (C,oC) (ET _ (ET _ (by simp)))).1;exact⟨m,⟨oC,esC,epC,hC6,hdC,rC⟩,λh' sb=>⟨_,_,J5.unpinned.turned (t':=s6.toks) (λb o hb e=>sb.extBut b o hb e) hC b1 b2 b3 b4,q⟩⟩
theorem sR{oc:Option Expr}{tb:TB}(c:CompOk X N tgs frs ix scope cl)(hc:X.calm=true)(hi:PI X tg iter wi)
  (hg:∀fp C s H,PG (ay X N scope cl fp C s H) tg g) (hb:∀fp C s H,PB (ay X N scope cl fp C s H) oc elt tb) (hs:∀x,Ol iter X.env x=pure x) :
  PE X (.ListComp elt [⟨tg,iter,oc.toList,0⟩] scope pos) (pe wi g tb tgs ix):=λpins s σ H Q I h=>by
 rw[eval_ListComp];exact j8 c hc hi hg hb hs zD I h
theorem pf{oc:Option Expr}{tb:TB}(hN:X.N.Nodup)(hy:X.N[iy]? = some y)(hx:Loc X.env.scope y)(c:CompOk X N tgs frs ix scope cl)(hc:X.calm=true)(hi:PI X tg iter wi)
  (hg:∀fp C s H,PG (ay X N scope cl fp C s H) tg g) (hb:∀fp C s H,PB (ay X N scope cl fp C s H) oc elt tb) (hs:∀x,Ol iter X.env x=pure x)
  (hsw:OC (.ListComp elt [⟨tg,iter,oc.toList,0⟩] scope pos) (some (.Name y py)) spos.line X.env=pure true) (hf:X.fn y=true\/X.env.scope.names.lookup y=some .local) :
  PS X (.Assign [.Name y py] (.ListComp elt [⟨tg,iter,oc.toList,0⟩] scope pos) spos) (ow (pe wi g tb tgs ix) (dJ iy)):=λpins s σ H Dn I h=>by
 rw[exec_Assign_Name_used _ _ _ _ hsw];refine Oh (Ot (Oh ?_));show wpAny _ X.A (do let _ <-comprehension (.ListComp elt [⟨tg,iter,oc.toList,0⟩] scope pos) scope X.env _ (newList []) false (eval iter X.env) (some (assign (.Name y py) X.env))) _ _ s
 exact Oh (Om (j8 (R:=λ_ s'=>SP X pins Dn .next s') c hc hi hg hb hs (zE hN hy hx hf) I h) (λ_ s' hq=>Oi (Oi hq)) λ_ _ e=>e)
theorem wJ{te:TE}(c:CompOk X N tgs frs ix scope cl)(hc:X.calm=true)(hi:PI X tg iter wi)
  (hg:∀fp C s H,PG (ay X N scope cl fp C s H) tg g) (he:∀fp C s H,PE (ay X N scope cl fp C s H) elt te)
  (hs:∀x,Ol iter X.env x=pure x:=by intro _;rfl) :
  PE X (.ListComp elt [⟨tg,iter,[],0⟩] scope pos) (pd wi g te tgs ix):=sR (oc:=none) (tb:=tbE te) c hc hi hg (λfp C s H=>.no (he fp C s H)) hs
end
section
variable{X:Cx}
def ph(i j:Int):Prop:=0<j/\j.natAbs.log2<9000
theorem nM{j:Int}(h0:0<j)(h:j<2 ^ 64):j.natAbs.log2<9000:=by
 have:j.natAbs<2 ^ 64:=by lia
 have h2:=(JI (by lia:j.natAbs≠0)).mpr this;lia
theorem sS:OpR X (Ov .FloorDiv) (rI ph λi j=>.int (i / j)):=opI λi j _ _ _ _ _ hc q=>by
 have e:i.fdiv j=i / j:=IQ _ (Ik hc.1);exact floordiv_int (Int.ne_of_gt hc.1) (by rw[e];exact q) (.inl (Jk hc.2))
theorem sU (hc:X.calm=true):cb X (.builtin "sum") (λxs H Q=>∃(p:Addr) (ns:List Int),xs=[.ref p]/\SqL X.K H p (ns.map N7)/\Q (.int ns.sum) H):=by
 intro pins s σ H xs us Q I r h;obtain⟨p,ns,rfl,hq,q⟩:=h;obtain⟨u,rfl,ru⟩:=cG r;cases ru;obtain⟨its,rv,hp,hz⟩:=I.list hq;have hi:Ou its ns:=ck rv;have hl:=hp.isList;obtain⟨zs,hx⟩:=hi.allInts.items;have hn:numsOf its.toArray.toList=ns:=by rw[show its.toArray.toList=its from rfl,hi.numsOf]
 rw[hx]at hl hn;rw[nums_intItems]at hn;refine sum_intListG (I.ok.hd hc) hl λh' tk t' hk=>?_
 refine⟨.int ns.sum,H,I.kept hk,⟨t',?_⟩,q⟩;rw[preSum_eq,ER (by simp),hn]
theorem pj{bs:List Bool}(h:bs.length=n):(EZ n).all (λi=>bs.getD i true)=bs.all id:=by
 subst h;rw[Hm,F4,F4];constructor
 ·intro h b hb
  obtain⟨i,hi,rfl⟩:=GJ.mp hb;have:=h i (by simpa using hi);simpa [hi]using this
 ·intro h i hi
  have hi:i<bs.length:=by simpa using hi
  simp only[EH,EF hi,Option.getD_some];exact h _ (Fh hi)
theorem wK{bs:List Bool}(rv:Vals (bs.map N8) its){v:Value}(h:its.toArray[i]? = some v){d:Bool}:v=.bool (bs.getD i d):=by
 have h':its[i]? = some v:=by simpa using h
 have hl:=rv.length;have hi:i<its.length:=(EM.mp h').1;have hi':i<bs.length:=by simpa using(by lia:i<(bs.map N8).length)
 obtain⟨u,e,ru⟩:=rv.get (i:=i) (x:=N8 bs[i]) (by simp[hi']);rw[h']at e;cases e;have:v=.bool bs[i]:=ru;rw[this];simp[hi']
theorem sV (hc:X.calm=true):cb X (.builtin "all") (λxs H Q=>∃(p:Addr) (bs:List Bool),xs=[.ref p]/\SqL X.K H p (bs.map N8)/\Q (.bl (bs.all id)) H):=by
 intro pins s σ H xs us Q I r h;obtain⟨p,bs,rfl,hq,q⟩:=h;obtain⟨u,rfl,ru⟩:=cG r;cases ru;obtain⟨its,rv,hp,hz⟩:=I.list hq;have hlt:p<s.heap.objs.size:=by obtain⟨o,e,_⟩:=hp.isList;exact EV e
 refine call_all_walk (wpAny_pyIter_list hp.isList ?_);refine⟨s.heap.objs.size,_,_,_,_,_,λi=>bs.getD i true,rfl,Nj (A:=X.A.in1) (I.ok.hd hc) _ p (Fc hlt) its.toArray,⟨⟨_,E5 _ rfl,rfl,rfl⟩,hp.isList.at λo e=>EJ _ e⟩,?_,λh' tk hk=>?_⟩
 ·intro i v s Q E hv hQ
  rw[wK rv hv (d:=true)];exact Os hQ
 ·have e:(EZ its.toArray.size).all (λi=>bs.getD i true)=bs.all id:=pj (by have:=rv.length;simpa using this)
  rw[e];exact⟨.bl (bs.all id),H,I.kept λb o e=>hk b o (by simp;exact Fc (EV e)) (EJ _ e),rfl,q⟩
theorem sW:cb X (.builtin "isinstance") (λxs H Q=>∃x t T b,xs=[x,.ty T]/\TyOf X.K H x t/\G5 X.K t (.type T)=some b/\Q (.bl b) H):=by
 intro pins s σ H xs us Q I r h;obtain⟨x,t,T,b,rfl,ty,e,q⟩:=h;obtain⟨u,w',rfl,ru,rw'⟩:=zl r;cases(show w'=Gh T from rw');exact oP I ru ty e λtk=>⟨.bl b,H,I.tok _,rfl,q⟩
example (K:EG):G5 K (.type "int") (.type "int")=some true:=rfl
example (K:EG):G5 K (.type "int") (.type "bool")=some false:=rfl
example (K:EG):G5 K (.type "tuple") (.type "tuple")=some true:=rfl
end
noncomputable def bS:Expr->Bool
 | .Starred ..=>false
 | _=>true
theorem aU{es:List Expr}{env:Env}(h:bS e=true):On (e::es) env=(false,eval e env)::On es env:=by
 cases e<;>first|rfl|cases h
theorem fv{pos:Pos}{env:Env}:∀{es:List Expr},es.all bS=true->(backTo pos (On es env)).any (·.1)=false
 | [],_=>rfl
 | e::es,h=>by
  rw[GT,FW]at h;rw[aU h.1];exact fv (es:=es) h.2
section
variable{X:Cx}{CX:CXT}{k:Nat}{f:Addr}{fd:FuncData}{ps:List Str}{sp:Sp}{E:XK}{x:Str}{p pos apos cpos:Pos}{e o:Expr}{es:List Expr}{te to:TE}{t:TA}{id T:String}{name:Str}
theorem D7(ha:PE X e te)(hr:PA X es t)(hn:bS e=true:=by rfl):PA X (e::es) (nJ te t):=wu ha hr (aU hn)
theorem sX(F:FnOk X.prog X.w X.K X.mg X.base CX k f fd ps sp)(hr:Room k X.A)(hg:Gl X x)(hm:X.mg x=some (.ref f))(hk:FZ X.K (.ref f)=true)(hb:Binds X.K fd ps [])(hx:dM CX X E)
  (ha:PA X (e::es) t) (hn:(e::es).all bS=true:=by rfl) (hdb:(x == ("__debug__" : Str))=false:=by decide):PE X (.Call (.Name x p) (e::es) [] pos) (oQ sp [] E t):=by
 rw[GT,FW]at hn;exact wA F hr hg hm hk hb .nil hx ha hdb (aU hn.1) (fv hn.2)
theorem pk {r:List V->Hp->VK->Prop}(hc:cb X (.builtin id) r) (hg:Gl X x) (hm:X.mg x=none) (hv:bootBuiltins x=some (.builtin id)) (ha:PA X (e::es) t) (hn:(e::es).all bS=true:=by rfl) (hn2:x≠"__name__":=by decide) (hdb:(x == ("__debug__" : Str))=false:=by decide) :
  PE X (.Call (.Name x p) (e::es) [] pos) (tCB r t):=by
 rw[GT,FW]at hn;exact sI hc hg hm hv ha hn2 hdb (aU hn.1) (fv hn.2)
theorem nN {r:List V->Hp->VK->Prop}(hc:cb X (.type T) r) (hg:Gl X x) (hm:X.mg x=none) (hv:bootBuiltins x=some (.type T)) (ha:PA X (e::es) t) (hn:(e::es).all bS=true:=by rfl) (hn2:x≠"__name__":=by decide) (hdb:(x == ("__debug__" : Str))=false:=by decide) :
  PE X (.Call (.Name x p) (e::es) [] pos) (tCB r t):=by
 rw[GT,FW]at hn;exact oT hc hg hm hv ha hn2 hdb (aU hn.1) (fv hn.2)
theorem fw {r:V->List V->Hp->VK->Prop}(pa:PlainAttrs T) (slot:Slot T name id) (hty:typeOf (.builtin id)=pure (.type "method_descriptor")) (hm:MtR X id r) (ho:PE X o to) (ha:PA X [e] t)
  (hbase:Oq o name X.env (eval o X.env)=eval o X.env:=by rfl) (hline:(apos.endLine == cpos.line)=true:=by rfl) (hn:bS e=true:=by rfl) :
  PE X (.Call (.Attribute o name apos) [e] [] cpos) (tBM X.K T r to t):=by
 refine Cf pa slot hty hm ho ha hbase ?_ hline (aU hn) rfl;rw[aU hn];rfl
end
section
variable{K:EG}{σ:St}{H:Hp}{Q:VK}{D:Ends}{E:XK}
theorem Do{t u:TS}(h:t { D with nx:=u D } σ H):BQ t u D σ H:=h
theorem Dp{te:TE}(h:te σ H λx H1=>g x σ H1 D.nx):ow te g D σ H:=h
theorem sZ{R:St->Hp->Prop}(h:R (σ.set i (some v)) H):dJ i v σ H R:=h
theorem Cg{to ti:TE}{t:Bk}{R:St->Hp->Prop}(h:to σ H λo H1=>ti σ H1 λi H2=>t o i v H2 λH3=>R σ H3):BV to ti t v σ H R:=h
theorem Dq{te:TE}(h:te σ H D.rt):BR te D σ H:=h
theorem Ci{te:TE}(h:te σ H λ_ H1=>D.nx σ H1):vR te D σ H:=h
theorem Cj(h:D.nx σ H):vO D σ H:=h
theorem D8{c:TT}{t u:TS}(h:c σ H λb H1=>if b=true then t D σ H1 else u D σ H1):BS c t u D σ H:=h
theorem Dr{c:TT}{tb:TE}(h:c σ H λb H1=>if b=true then ta σ H1 Q else tb σ H1 Q):tIf c ta tb σ H Q:=h
theorem Ck{t:TE}{R:Bool->Hp->Prop}(h:t σ H λx H'=>∃k,x=.bl k/\R k H'):wg t σ H R:=h
theorem EB{t:TE}{R:Bool->Hp->Prop}(h:t σ H λx H'=>∃k,x=.bl k/\R k H'):tB t σ H R:=h
theorem D9{b:Bool}{R:Bool->Prop}(h:R b):∃k,N8 b=.bl k/\R k:=⟨b,rfl,h⟩
theorem Ds{t:TT}{R:Bool->Hp->Prop}(h:t σ H λc H1=>R (!c) H1):BL t σ H R:=h
theorem Ea{t u:TT}{R:Bool->Hp->Prop}(h:t σ H λc H1=>if c=true then R true H1 else u σ H1 R):tOr t u σ H R:=h
theorem Dt{t u:TT}{R:Bool->Hp->Prop}(h:t σ H λc H1=>if c=true then u σ H1 R else R false H1):BK t u σ H R:=h
theorem Cm{tb:TE}(h:ta σ H λx H1=>∃c,x=.bl c/\if c=true then tb σ H1 Q else Q (.bl false) H1):vN ta tb σ H Q:=h
theorem Du{tb:TE}(h:ta σ H λx H1=>∃c,x=.bl c/\if c=true then Q (.bl true) H1 else tb σ H1 Q):BN ta tb σ H Q:=h
theorem EC(h:Q v H):tC v σ H Q:=h
theorem Eb{r:R2}{tb:TE}(h:ta σ H λx H1=>tb σ H1 λy H2=>r x y H2 Q):tOp r ta tb σ H Q:=h
theorem Ec{r:V->Hp->VK->Prop}(h:ta σ H λx H1=>r x H1 Q):tUn r ta σ H Q:=h
theorem Ed{g:Int->Int->V}{i j:Int}(h:Q (g i j) H):rI0 g (.int i) (.int j) H Q:=⟨i,j,rfl,rfl,h⟩
theorem Dv{C:Int->Int->Prop}{g:Int->Int->V}{i j:Int}(c:C i j)(h:Q (g i j) H):rI C g (.int i) (.int j) H Q:=⟨i,j,rfl,rfl,c,h⟩
theorem ED{g:Int->V}{i:Int}(h:Q (g i) H):rU g (.int i) H Q:=⟨i,rfl,h⟩
theorem Dw{i j:Int}(h:Q (.bl (decide (N7 i=N7 j))) H):rEq (.int i) (.int j) H Q:=⟨rfl,h⟩
theorem Dx{i j:Int}(h:Q (.bl (!decide (N7 i=N7 j))) H):rNe (.int i) (.int j) H Q:=⟨rfl,h⟩
theorem bq{i:Int}(s:SqL K H p xs)(a:atI xs i=some v)(h:Q v H):zw K (.ref p) (.int i) H Q:=⟨p,xs,i,v,rfl,rfl,s,a,h⟩
theorem gb{k:Int}{R:Hp->Prop}(s:H p=some (.lst xs))(a:ixN xs.length k=some j)(h:R (upd H p (.lst (xs.set j v)))):oY (.ref p) (.int k) v H R:=⟨p,xs,k,j,rfl,rfl,s,a,h⟩
theorem zF{i:Int}(s:H p=some (.lst xs))(h:∃v,atI xs i=some v/\Q v H):zw K (.ref p) (.int i) H Q:=let⟨v,a,q⟩:=h;⟨p,xs,i,v,rfl,rfl,N4 s,a,q⟩
theorem wL{i:Int}(s:H p=some (.tup xs))(h:∃v,atI xs i=some v/\Q v H):Br K (.ref p) (.int i) H Q:=let⟨v,a,q⟩:=h;⟨p,xs,i,v,rfl,rfl,N6 s,a,q⟩
theorem wM{k:Int}{R:Hp->Prop}(s:H p=some (.lst xs))(h:∃j,ixN xs.length k=some j/\R (upd H p (.lst (xs.set j v)))):oY (.ref p) (.int k) v H R:=let⟨j,a,q⟩:=h;⟨p,xs,k,j,rfl,rfl,s,a,q⟩
theorem Ee{r:List V->Hp->VK->Prop}(h:t σ H λvs H1=>r vs H1 Q):tCB r t σ H Q:=h
theorem Cn{tr:TA}{R:List V->Hp->Prop}(h:ta σ H λx H1=>tr σ H1 λxs H2=>R (x::xs) H2):nJ ta tr σ H R:=h
theorem Dy{R:List V->Hp->Prop}(h:R [] H):wq σ H R:=h
theorem Co{sp:Sp}(h:t σ H λvs H1=>sp (vs++[]) H1 Q E):oQ sp [] E t σ H Q:=h
theorem Dz(h:t σ H λxs H1=>xs.length<=sizeLine/\∀p,H1 p=none->Q (.ref p) (upd H1 p (.lst xs))):Cc t σ H Q:=h
theorem DA(h:t σ H λxs H1=>xs.length<=sizeLine/\∀p,H1 p=none->Q (.ref p) (upd H1 p (.tup xs))):Cb t σ H Q:=h
theorem jk{A B:Prop}(h:A):if true=true then A else B:=by rw[if_pos rfl];exact h
theorem di{A B:Prop}(h:B):if false=true then A else B:=by rw[if_neg E9];exact h
theorem br{c A B:Prop}[Decidable c](h1:c->A)(h2:¬c->B):if decide c=true then A else B:=by
 by_cases h:c
 ·rw[decide_eq_true h];exact jk (h1 h)
 ·rw[decide_eq_false h];exact di (h2 h)
theorem pq{c A B:Prop}[Decidable c](hc:c)(h:A):if decide c=true then A else B:=by rw[decide_eq_true hc];exact jk h
theorem gO{c A B:Prop}[Decidable c](hc:¬c)(h:B):if decide c=true then A else B:=by rw[decide_eq_false hc];exact di h
theorem wN{c A B:Prop}[Decidable c](hc:c)(h:B):if(!decide c)=true then A else B:=by rw[decide_eq_true hc];exact di h
theorem aI(h:n<=1000):n<=sizeLine:=Gy (ar h)
theorem Cp{i j:Int}(h1:0<j)(h2:j<2 ^ 64):ph i j:=⟨h1,nM h1 h2⟩
theorem Ef{i j:Int}(h1:0<j)(h2:j<1073741824):B2 i j:=⟨h1,h2⟩
theorem Cq{i j:Int}(h1:-(2 ^ 64)<i)(h2:i<2 ^ 64):CMul i j:=.inl ⟨h1,h2⟩
theorem Cr{i j:Int}(h1:-(2 ^ 64)<j)(h2:j<2 ^ 64):CMul i j:=.inr ⟨h1,h2⟩
theorem Bs(h:Q (.int 1000000000000000000) H):rI Bq (λi j=>.int (i ^ j.toNat)) (.int 10) (.int 18) H Q:=⟨10,18,rfl,rfl,⟨by decide,by decide,by decide⟩,by
 have e:(10:Int) ^ (18:Int).toNat=1000000000000000000:=by decide
 show Q (.int ((10:Int) ^ (18:Int).toNat)) H
 rw[e];exact h⟩
theorem Cs(h:Q (.int 1000000) H):rI Bq (λi j=>.int (i ^ j.toNat)) (.int 10) (.int 6) H Q:=⟨10,6,rfl,rfl,⟨by decide,by decide,by decide⟩,by
 have e:(10:Int) ^ (6:Int).toNat=1000000:=by decide
 show Q (.int ((10:Int) ^ (6:Int).toNat)) H
 rw[e];exact h⟩
noncomputable abbrev RC:=List V->Hp->VK->Prop
def Ct:RC:=λxs H Q=>∃i,xs=[.int i]/\Q (.int (if i<0 then -i else i)) H
def wO:RC:=λxs H Q=>∃k,xs=[.bl k]/\Q (.int (if k then 1 else 0)) H
def wQ:RC:=λxs H Q=>∃i j,xs=[.int i,.int j]/\Q (.int (if j<i then j else i)) H
def Bt(K:EG):RC:=λxs H Q=>∃p ys,xs=[.ref p]/\(SqL K H p ys\/SqT K H p ys)/\Q (.int ys.length) H
def Cu(K:EG):RC:=λxs H Q=>∃(p:Addr) (ns:List Int),xs=[.ref p]/\SqL K H p (ns.map N7)/\Q (.int ns.sum) H
def Cv(K:EG):RC:=λxs H Q=>∃(p:Addr) (bs:List Bool),xs=[.ref p]/\SqL K H p (bs.map N8)/\Q (.bl (bs.all id)) H
def rW(K:EG):RC:=λxs H Q=>∃x t T b,xs=[x,.ty T]/\TyOf K H x t/\G5 K t (.type T)=some b/\Q (.bl b) H
def gu(K:EG):RC:=λxs H Q=>∃p ys,xs=[.ref p]/\((SqL K H p ys/\∀l,H l=none->Q (.ref l) (upd H l (.tup ys)))\/(SqT K H p ys/\Q (.ref p) H))
section
variable{X:Cx}
theorem zG:cb X (.builtin "abs") Ct:=su
theorem zH:cb X (.type "int") wO:=λpins s σ H xs us Q I r h=>oK pins s σ H xs us Q I r (.inr h)
theorem zI (hc:X.calm=true):cb X (.builtin "min") wQ:=oJ hc
theorem zJ:cb X (.builtin "len") (Bt X.K):=j2
theorem zK (hc:X.calm=true):cb X (.builtin "sum") (Cu X.K):=sU hc
theorem zL (hc:X.calm=true):cb X (.builtin "all") (Cv X.K):=sV hc
theorem zM:cb X (.builtin "isinstance") (rW X.K):=sW
theorem tw:cb X (.type "tuple") (gu X.K):=jg
end
theorem DB{i:Int}(h:Q (.int (if i<0 then -i else i)) H):Ct [.int i] H Q:=⟨i,rfl,h⟩
theorem Cw{k:Bool}(h:Q (.int (if k then 1 else 0)) H):wO [.bl k] H Q:=⟨k,rfl,h⟩
theorem DC{i j:Int}(h:Q (.int (if j<i then j else i)) H):wQ [.int i,.int j] H Q:=⟨i,j,rfl,h⟩
theorem aJ(s:SqL K H p ys)(h:Q (.int ys.length) H):Bt K [.ref p] H Q:=⟨p,ys,rfl,.inl s,h⟩
theorem wR(s:SqT K H p ys)(h:Q (.int ys.length) H):Bt K [.ref p] H Q:=⟨p,ys,rfl,.inr s,h⟩
theorem zN{ns:List Int}(s:SqL K H p (ns.map N7))(h:Q (.int ns.sum) H):Cu K [.ref p] H Q:=⟨p,ns,rfl,s,h⟩
theorem uU{bs:List Bool}(s:SqL K H p (bs.map N8))(h:Q (.bl (bs.all id)) H):Cv K [.ref p] H Q:=⟨p,bs,rfl,s,h⟩
theorem Bu {i:Int}(h:Q (.bl true) H):rW K [.int i,.ty "int"] H Q:=⟨_,_,_,_,rfl,.int i,rfl,h⟩
theorem Bv {i:Int}(h:Q (.bl false) H):rW K [.int i,.ty "bool"] H Q:=⟨_,_,_,_,rfl,.int i,rfl,h⟩
theorem tD (s:H p=some (.tup xs)) (h:Q (.bl true) H):rW K [.ref p,.ty "tuple"] H Q:=⟨_,_,_,_,rfl,.tup s,rfl,h⟩
theorem tE (s:H p=some (.lst xs)) (h:Q (.bl true) H):rW K [.ref p,.ty "list"] H Q:=⟨_,_,_,_,rfl,.lst s,rfl,h⟩
theorem fz(s:SqL K H p ys)(h:∀l,H l=none->Q (.ref l) (upd H l (.tup ys))):gu K [.ref p] H Q:=⟨p,ys,rfl,.inl ⟨s,h⟩⟩
theorem pv(s:SqT K H p ys)(h:Q (.ref p) H):gu K [.ref p] H Q:=⟨p,ys,rfl,.inr ⟨s,h⟩⟩
theorem dP{r:Int}(h0:0<=r)(h1:r<xs.length):∃v,atI xs r=some v/\v∈xs:=by
 have hl:r.toNat<xs.length:=by lia
 have e:r=(r.toNat:Int):=by lia
 refine⟨xs[r.toNat],?_,Fh hl⟩;have:=bc (xs:=xs) (j:=r.toNat) (v:=xs[r.toNat]) (by simp[hl]);rw[<-e]at this;exact this
theorem DD (h:wi σ H λJ H1=>∃W:Nat->Nat->St->Hp->Prop,(∃m,W 0 m σ H1)/\∀i m σ H,W i m σ H->
 (J.stop i H/\D.nx σ H)\/(J.go i H/\∃N:St->Hp->Prop,(∀σ' H',N σ' H'->∃m',m'<m/\W (i+1) m' σ' H')/\∀x H',J.yld i H x H'->g x σ H' λσ2 H2=>tb { D with nx:=N,ct:=N,bk:=D.nx } σ2 H2)):BZ wi g tb D σ H:=h
theorem Cy{ta:TA}{R:It->Hp->Prop}(h:ta σ H λvs H1=>∃j:Int,vs=[.int j]/\-(2 ^ 62)<=j/\j<2 ^ 62/\R (Itr 0 j.toNat) H1):vX ta σ H R:=h
theorem Bw{tl:TE}{R:It->Hp->Prop}(h:tl σ H λx H1=>∃a,x=.ref a/\(∃xs,SqL K H1 a xs)/\R (Itl K a) H1):vV K tl σ H R:=h
theorem Cz{tl:TE}{R:It->Hp->Prop}(h:tl σ H λx H1=>∃a,x=.ref a/\(∃xs,SqT K H1 a xs)/\R (Itt K a) H1):BY K tl σ H R:=h
theorem Eg{A B:Prop}(h:B):if(!true)=true then A else B:=di h
theorem Eh{A B:Prop}(h:A):if(!false)=true then A else B:=jk h
theorem CA {te:TE}{tgs:List Str}(h:wi σ H λJ H1=>
 ∃W:Nat->Nat->List V->St->Hp->Prop,(∃m,W 0 m [] (dO tgs ix σ) H1)/\∀i m xs σc H,W i m xs σc H->xs.length<sizeLine/\
  ((J.stop i H/\∀p,H p=none->Q (.ref p) (upd H p (.lst xs)))\/(J.go i H/\∀x H',J.yld i H x H'->g x σc H' λσ2 H2=>te σ2 H2 λy H3=>∃m',m'<m/\W (i+1) m' (xs++[y]) σ2 H3))):pd wi g te tgs ix σ H Q:=h
theorem dvp(n b k:Nat):n / b ^ k / b=n / b ^ (k+1):=by rw[Nat.div_div_eq_div_mul,Jl]
theorem tF(hb:2<=b)(h:0<n / b ^ pl):2 ^ (pl+1)<=2*n+1:=by
 have h1:b ^ pl<=n:=(Ly.mp h).2;have h2:2 ^ pl<=b ^ pl:=Nat.pow_le_pow_left hb pl;rw[Jl];lia
def Tape(H:Hp)(p:Addr):Prop:=∃a b c:Int,H p=some (.lst [.int a,.int b,.int c])/\0<=a
structure Stp (p:Addr) (H H':Hp):Prop where
 keep:∀q o,H q=some o->q≠p->H' q=some o
 tape:Tape H' p
theorem Stp.refl(t:Tape H p):Stp p H H:=⟨λ_ _ h _=>h,t⟩
theorem Stp.trans(a:Stp p H H1)(b:Stp p H1 H2):Stp p H H2:=⟨λq o h n=>b.keep q o (a.keep q o h n) n,b.tape⟩
theorem Tape.mk{a b c:Int}(h:0<=a):Stp p H (upd H p (.lst [.int a,.int b,.int c])):=⟨λq o e n=>by rw[ak n];exact e,⟨a,b,c,ae,h⟩⟩
theorem Stp.new(a:Stp p H H1)(h:H1 q=none):Stp p H (upd H1 q o):=by
 obtain⟨x,y,z,e,n⟩:=a.tape;exact⟨λb u e1 e2=>by rw[ak (ao (a.keep b u e1 e2) h)];exact a.keep b u e1 e2,⟨x,y,z,by rw[ak (ao e h)];exact e,n⟩⟩
theorem Tape.ne(t:Tape H p)(h:H q=none):q≠p:=by
 obtain⟨a,b,c,e,_⟩:=t;exact λz=>ao e h z.symm
theorem Tape.same(t:Tape H p)(s:Same H H1):Tape H1 p:=by
 obtain⟨a,b,c,e,n⟩:=t;exact⟨a,b,c,s _ _ e,n⟩
def zO(K:EG):Sp:=λvs H Q _=>∃(a:Addr) (ns:List Int) (k:Int),vs=[.ref a,.int k]/\SqL K H a (ns.map N7)/\0<=k/\
 ∀p H',H p=none->Same H H'->Tape H' p->Q (.ref p) H'
def zP:Sp:=λvs H Q _=>∃(p:Addr) (m:Int),vs=[.ref p,.int m]/\Tape H p/\0<m/\m<2 ^ 64/\∀r H',0<=r->r<m->Stp p H H'->Q (.int r) H'
def zQ:Sp:=λvs H Q _=>∃(p:Addr),vs=[.ref p]/\Tape H p/\∀r H',2<=r->r<=64->Stp p H H'->Q (.int r) H'
end
structure QE (X:Cx) (e:Expr) (t:TE):Prop where
 out:PE X e t
structure QT (X:Cx) (e:Expr) (t:TT):Prop where
 out:PT X e t
structure QW (X:Cx) (e:Expr) (t:TT):Prop where
 out:PW X e t
structure QA (X:Cx) (es:List Expr) (t:TA):Prop where
 out:PA X es t
structure QO (X:Cx) (e:Option Expr) (t:TO):Prop where
 out:PO X e t
structure QI (X:Cx) (tg iter:Expr) (t:TI):Prop where
 out:PI X tg iter t
structure QG (X:Cx) (tg:Expr) (t:TG):Prop where
 out:PG X tg t
structure QGs (X:Cx) (ts:List Expr) (t:TGs):Prop where
 out:PGs X ts t
structure QS (X:Cx) (st:Stmt) (t:TS):Prop where
 out:PS X st t
structure QB (X:Cx) (sts:List Stmt) (t:TS):Prop where
 out:PSs X sts t
structure QOp (X:Cx) (f:Value->Value->Sem Value) (r:R2):Prop where
 out:OpR X f r
structure QUn (X:Cx) (f:Value->Sem Value) (r:V->Hp->VK->Prop):Prop where
 out:UnR X f r
structure QC (X:Cx) (f:Value) (r:List V->Hp->VK->Prop):Prop where
 out:cb X f r
structure QIx (X:Cx) (r:R2):Prop where
 out:IxR X r
structure QSl (X:Cx) (r:V->Option Int->Option Int->Hp->VK->Prop):Prop where
 out:SlR X r
noncomputable def DE:Expr->Bool
 | .Slice ..=>false
 | _=>true
theorem tG{b:Expr}(h:DE b=true):oX b:=by
 cases b<;>first|(intro _ _;rfl)|cases h
def DF(K:EG)(ta:TE):TT:=λσ H Q=>ta σ H λx H'=>∃k,uQ K x H' k/\Q k H'
section
variable{X:Cx}{a b c e o:Expr}{es dm:List Expr}{ta tb tc te to ti:TE}{tA tB':TT}{t:TA}{pos p p2 apos cpos:Pos}{r r':R2}{x:Str}
theorem qv (i:Nat){x:Str}{pos:Pos}(hN:X.N[i]? = some x:=by rfl) (hv:Vis X.env.scope x:=by first | exact II rfl | exact NH (II rfl) | exact NH (NH rfl)) (hd:(x == ("__debug__" : Str))=false:=by decide)
  (hcd:(x == ("__classdict__" : Str))=false:=by decide):QE X (.Name x pos) (BI i):=⟨yT hN hv hd hcd⟩
theorem ah{i j pos}:QE X (.Constant (.int i) j pos) (tC (.int i)):=⟨uK⟩
theorem gP{b j pos}:QE X (.Constant (.bool b) j pos) (tC (.bl b)):=⟨BJ⟩
theorem bJ{j pos}:QE X (.Constant .none j pos) (tC .non):=⟨yU⟩
theorem aw{x j pos}:QE X (.Constant (.str x) j pos) (tC (.str x)):=⟨yV⟩
theorem c8 (hg:Gl X x) (hm:X.mg x=none) (hv:bootBuiltins x=some u) (r:RelV v u) (hn:x≠"__name__":=by decide) (hd:(x == ("__debug__" : Str))=false:=by decide):QE X (.Name x pos) (tC v):=⟨vL hg hm hv r hn hd⟩
theorem aC{op:Operator}(ho:QOp X (Ov op) r)(ha:QE X a ta)(hb:QE X b tb):QE X (.BinOp a op b pos) (tOp r ta tb):=⟨B1 ho.out ha.out hb.out⟩
theorem j9{op:UnaryOp}{r:V->Hp->VK->Prop}(ho:QUn X (unaryOp op) r)(ha:QE X a ta):QE X (.UnaryOp op a pos) (tUn r ta):=⟨ze ho.out ha.out⟩
theorem dQ{op:CmpOp}(ho:QOp X (Oo op) r)(ha:QE X a ta)(hb:QE X b tb)(hm:OK op b=false):QE X (.Compare a [op] [b] pos) (tOp r ta tb):=⟨we ho.out ha.out hb.out hm⟩
theorem av{op:CmpOp}(ho:QOp X (Oo op) r)(ha:QE X a ta)(hb:QE X b tb)(hm:OK op b=false):QT X (.Compare a [op] [b] pos) (wg (tOp r ta tb)):=⟨wj ho.out ha.out hb.out hm⟩
theorem iX{op}(h:QE X a ta):QE X (.BoolOp op [a] pos) ta:=⟨y0 h.out⟩
theorem uV(ha:QE X a ta)(hb:QE X (.BoolOp .And (b::dm) pos) tb):QE X (.BoolOp .And (a::b::dm) pos) (vN ta tb):=⟨y3 ha.out hb.out⟩
theorem CB(ha:QE X a ta)(hb:QE X (.BoolOp .Or (b::dm) pos) tb):QE X (.BoolOp .Or (a::b::dm) pos) (BN ta tb):=⟨BO ha.out hb.out⟩
theorem c5(ha:QT X a tA):QT X (.UnaryOp .Not a pos) (BL tA):=⟨yZ ha.out⟩
theorem cD(h:QE X a ta)(he:∀whole,isTrue a X.env whole=(do let v <-whole;OH a.pos;OI [v] (truthy v)):=by intro _;rfl):QT X a (tB ta):=⟨yW h.out he⟩
theorem jl{K:EG}(h:QE X a ta)(he:∀whole,isTrue a X.env whole=(do let v <-whole;OH a.pos;OI [v] (truthy v)):=by intro _;rfl)(hK:X.K=K:=by rfl):QT X a (DF K ta):=by subst hK;exact⟨sr h.out he⟩
theorem fN(ha:QT X a tA):QW X (.BoolOp .And [a] pos) tA:=⟨vM ha.out⟩
theorem gc(ha:QT X a tA):QW X (.BoolOp .Or [a] pos) tA:=⟨yX ha.out⟩
theorem gf(ha:QT X a tA)(hb:QW X (.BoolOp .And (b::dm) pos) tB'):QW X (.BoolOp .And (a::b::dm) pos) (BK tA tB'):=⟨yY ha.out hb.out⟩
theorem eU(ha:QT X a tA)(hb:QW X (.BoolOp .Or (b::dm) pos) tB'):QW X (.BoolOp .Or (a::b::dm) pos) (tOr tA tB'):=⟨BM ha.out hb.out⟩
theorem QW.qt(h:QW X e tA):QT X e tA:=⟨h.out.pt⟩
theorem jm(hc:QT X c tA)(ha:QE X a ta)(hb:QE X b tb):QE X (.IfExp c a b pos) (tIf tA ta tb):=⟨sf hc.out ha.out hb.out⟩
theorem aa:QA X [] wq:=⟨zq⟩
theorem aj(ha:QE X e te)(hr:QA X es t)(hn:bS e=true:=by rfl):QA X (e::es) (nJ te t):=⟨D7 ha.out hr.out hn⟩
theorem aP(h:QA X es t):QE X (.List es pos) (Cc t):=⟨zt h.out⟩
theorem bP{x1}(h:QA X es t):QE X (.Tuple es x1 pos) (Cb t):=⟨zr h.out⟩
theorem aH(hr:QIx X r)(ha:QE X a ta)(hb:QE X b tb)(hs:DE b=true:=by rfl):QE X (.Subscript a b pos) (tOp r ta tb):=⟨Cd hr.out ha.out hb.out (tG hs)⟩
theorem gQ:QO X none k7:=⟨wD⟩
theorem dr(h:QE X e te):QO X (some e) (wC te):=⟨wF h.out⟩
theorem dw{r:V->Option Int->Option Int->Hp->VK->Prop}{lo hi:Option Expr}{tl th:TO}(hr:QSl X r)(he:QE X e te)(hl:QO X lo tl)(hu:QO X hi th):QE X (.Subscript e (.Slice lo hi none p2) pos) (tSl r te tl th):=⟨sP hr.out he.out hl.out hu.out⟩
theorem aq {id:String}{r:RC}(hc:QC X (.builtin id) r) (hg:Gl X x) (hm:X.mg x=none) (hv:bootBuiltins x=some (.builtin id)) (ha:QA X (e::es) t) (hn:(e::es).all bS=true:=by rfl) (hn2:x≠"__name__":=by decide) (hdb:(x == ("__debug__" : Str))=false:=by decide) :
  QE X (.Call (.Name x p) (e::es) [] pos) (tCB r t):=⟨pk hc.out hg hm hv ha.out hn hn2 hdb⟩
theorem aQ {T:String}{r:RC}(hc:QC X (.type T) r) (hg:Gl X x) (hm:X.mg x=none) (hv:bootBuiltins x=some (.type T)) (ha:QA X (e::es) t) (hn:(e::es).all bS=true:=by rfl) (hn2:x≠"__name__":=by decide) (hdb:(x == ("__debug__" : Str))=false:=by decide) :
  QE X (.Call (.Name x p) (e::es) [] pos) (tCB r t):=⟨nN hc.out hg hm hv ha.out hn hn2 hdb⟩
theorem wU{CX:CXT}{f:Addr}{fd:FuncData}{ps:List Str}{sp:Sp}{E:XK}(F:FnOk X.prog X.w X.K X.mg X.base CX k f fd ps sp)(hr:Room k X.A)(hg:Gl X x)(hm:X.mg x=some (.ref f))(hk:FZ X.K (.ref f)=true)(hb:Binds X.K fd ps [])(hx:dM CX X E)
  (ha:QA X (e::es) t) (hn:(e::es).all bS=true:=by rfl) (hdb:(x == ("__debug__" : Str))=false:=by decide):QE X (.Call (.Name x p) (e::es) [] pos) (oQ sp [] E t):=⟨sX F hr hg hm hk hb hx ha.out hn hdb⟩
theorem aO {K:EG}(ho:QE X o to) (ha:QA X [e] t) (hbase:Oq o ("append" : Str) X.env (eval o X.env)=eval o X.env:=by rfl) (hline:(apos.endLine == cpos.line)=true:=by rfl) (hn:bS e=true:=by rfl) (hK:X.K=K:=by rfl) :
  QE X (.Call (.Attribute o "append" apos) [e] [] cpos) (tBM K "list" lg to t):=by subst hK;exact⟨fw GS PySem.F.slot_list_append PySem.F.type_list_append o7 ho.out ha.out hbase hline hn⟩
variable{tg iter:Expr}{wi:TI}{g:TG}{i:Nat}{u:TGs}
theorem bK {p pos:Pos}(hg:Gl X "range") (hm:X.mg "range" = none) (ha:QA X [a] t) (hn:bS a=true:=by rfl):QI X tg (.Call (.Name "range" p) [a] [] pos) (vX t):=⟨oE hg hm ha.out (aU hn)⟩
theorem bx{K:EG}(hl:QE X e te)(hK:X.K=K:=by rfl):QI X tg e (vV K te):=by subst hK;exact⟨vW hl.out⟩
theorem gR{K:EG}(hl:QE X e te)(hK:X.K=K:=by rfl):QI X tg e (BY K te):=by subst hK;exact⟨zc hl.out⟩
theorem wV(hN:X.N.Nodup)(hi:X.N[i]? = some x)(hx:Loc X.env.scope x)(hf:X.fn x=true\/X.env.scope.names.lookup x=some .local:=by first|exact .inl rfl|exact .inr rfl|assumption):QG X (.Name x pos) (dJ i):=⟨vT hN hi hx hf⟩
theorem bZ:QGs X [] Bl:=⟨vU⟩
theorem aE{ts:List Expr}(h1:QG X e g)(h2:QGs X ts u)(hs:(Oy (e::ts) X.env).map (·.2)=assign e X.env::(Oy ts X.env).map (·.2):=by rfl):QGs X (e::ts) (kZ g u):=⟨si h1.out h2.out hs⟩
theorem c6{K:EG}{ts:List Expr}(hc:X.calm=true)(h:QGs X ts u)(hn:(Oy ts X.env).length=n:=by rfl)(hst:(Oy ts X.env).findIdx? (·.1)=none:=by rfl)(hK:X.K=K:=by rfl):QG X (.Tuple ts k pos) (Bm K n u):=by subst hK;exact⟨y7 hc h.out hn hst⟩
variable{st:Stmt}{sts s1 s2:List Stmt}{T1 T2:TS}
theorem aK:QB X [] vO:=⟨vP⟩
theorem af(h1:QS X st T1)(h2:QB X sts T2):QB X (st::sts) (BQ T1 T2):=⟨sg h1.out h2.out⟩
theorem ai(h1:QS X st T1):QB X [st] T1:=⟨vQ h1.out⟩
theorem au(he:QE X e te):QS X (.Return (some e) pos) (BR te):=⟨y4 he.out⟩
theorem dy:QS X st uL:=⟨sh⟩
theorem bf(he:QE X e te)(hs:OC e none pos.line X.env=pure false:=by rfl):QS X (.Expr e pos) (vR te):=⟨vS he.out hs⟩
theorem aY(hc:QT X c tA)(ha:QB X s1 T1)(hb:QB X s2 T2):QS X (.If c s1 s2 pos) (BS tA T1 T2):=⟨BU hc.out ha.out hb.out⟩
theorem zR(hN:X.N.Nodup)(hi:X.N[i]? = some x)(hx:Loc X.env.scope x)(he:QE X e te)(hs:OC e (some (.Name x pos')) pos.line X.env=pure false:=by rfl)(hf:X.fn x=true\/X.env.scope.names.lookup x=some .local:=by first|exact .inl rfl|exact .inr rfl|assumption):
  QS X (.Assign [.Name x pos'] e pos) (ow te (dJ i)):=⟨y9 hN hi hx he.out hs hf⟩
theorem dR{tpos:Pos}(he:QE X e te)(ho:QE X o to)(hi:QE X b tb)
  (ha:∀v,assign (.Subscript o b tpos) X.env v=(do
   let ov <-OI [v] (eval o X.env)
   let iv <-OI [v,ov] (eval b X.env)
   OH tpos
   OI [v,ov,iv] (setItem ov iv v)
   release [v,ov,iv] []):=by intro _;rfl)
  (hs:swapsWithSole [.Subscript o b tpos] e pos.line X.env=pure false:=by rfl) (hw:swappedStores [.Subscript o b tpos] e X.env=pure none:=by rfl)
  (h1:(Oy [.Subscript o b tpos] X.env).map (·.2)=[assign (.Subscript o b tpos) X.env]:=by rfl):QS X (.Assign [.Subscript o b tpos] e pos) (ow te (BV to tb oY)):=⟨uM he.out (y8 ho.out hi.out sQ ha) hs hw h1⟩
theorem mj{op:Operator}{ti:R2}(hN:X.N.Nodup)(hi:X.N[i]? = some x)(hx:Loc X.env.scope x)(he:QE X e te)(ho:QOp X (OF op) ti)(hf:X.fn x=true\/X.env.scope.names.lookup x=some .local:=by first|exact .inl rfl|exact .inr rfl|assumption):
  QS X (.AugAssign (.Name x pos') op e pos) (BX i te ti):=⟨zb hN hi hx he.out ho.out hf⟩
theorem ka{i:Nat}{x:Str}{a b:Expr}{ta:TA}{px pt:Pos}{kt k2 pt2}(hc:X.calm=true)(hN:X.N.Nodup)(hi:X.N[i]? = some x)(hj:X.N[j]? = some y)(hij:i≠j)
  (hx:X.env.scope.names.lookup x=some .local) (hy:X.env.scope.names.lookup y=some .local) (ha:QA X [a,b] ta)
  (hw:swappedStores [.Tuple [.Name x px,.Name y py] kt pt] (.Tuple [a,b] k2 pt2) X.env=pure (some [x,y]):=by rfl)
  (hs:swapsWithSole [.Tuple [.Name x px,.Name y py] kt pt] (.Tuple [a,b] k2 pt2) pos.line X.env=pure false:=by rfl) :
  QS X (.Assign [.Tuple [.Name x px,.Name y py] kt pt] (.Tuple [a,b] k2 pt2) pos) (BW i j ta):=⟨za hc hN hi hj hij hx hy ha.out hw hs⟩
theorem eG(hp:PassesOwn (model X.prog X.w) X.A X.env X.xe)(hc:QT X c tA)(hb:QB X sts T1):QS X (.While c sts [] pos) (uN tA T1):=⟨sj hp hc.out hb.out⟩
theorem cf(hp:PassesOwn (model X.prog X.w) X.A X.env X.xe)(hc:X.calm=true)(hi:QI X tg iter wi)(hg:QG X tg g)(hb:QB X sts T1)(hs:∀x,Ol iter X.env x=pure x:=by intro _;rfl):QS X (.For tg iter sts [] pos) (BZ wi g T1):=⟨zd hp hc hi.out hg.out hb.out hs⟩
theorem bj{N tgs frs:List Str}{cl:List (Str×Addr)}(c:CompOk X N tgs frs ix scope cl)(hc:X.calm=true)(hi:QI X tg iter wi)
  (hg:∀fp C s H,QG (ay X N scope cl fp C s H) tg g) (he:∀fp C s H,QE (ay X N scope cl fp C s H) elt te)
  (hs:∀x,Ol iter X.env x=pure x:=by intro _;rfl) :
  QE X (.ListComp elt [⟨tg,iter,[],0⟩] scope pos) (pd wi g te tgs ix):=⟨wJ c hc hi.out (λfp C s H=>(hg fp C s H).out) (λfp C s H=>(he fp C s H).out) hs⟩
theorem eV:QOp X (Ov .Add) (rI0 λi j=>.int (i+j)):=⟨zf⟩
theorem fO:QOp X (Ov .Sub) (rI0 λi j=>.int (i - j)):=⟨zg⟩
theorem fP:QOp X (Ov .Mult) (rI CMul λi j=>.int (i*j)):=⟨zh⟩
theorem dz:QOp X (Ov .FloorDiv) (rI ph λi j=>.int (i / j)):=⟨sS⟩
theorem iK:QOp X (Ov .Mod) (rI (λ_ j=>0<j) λi j=>.int (i % j)):=⟨zi⟩
theorem wW:QOp X (Ov .Pow) (rI Bq λi j=>.int (i ^ j.toNat)):=⟨zj⟩
theorem wX:QOp X (Ov .Add) Dl:=⟨zB⟩
theorem tH:QOp X (Ov .Mult) Dm:=⟨zC⟩
theorem gj:QOp X (Oo .Eq) rEq:=⟨B3⟩
theorem yF:QOp X (Oo .NotEq) rNe:=⟨B4⟩
theorem wY:QOp X (Oo .Lt) (rI0 λi j=>.bl (decide (i<j))):=⟨B5⟩
theorem DG:QOp X (Oo .LtE) (rI0 λi j=>.bl (decide (i<=j))):=⟨B6⟩
theorem nO:QOp X (Oo .Gt) (rI0 λi j=>.bl (decide (j<i))):=⟨B7⟩
theorem CC:QOp X (Oo .GtE) (rI0 λi j=>.bl (decide (j<=i))):=⟨B8⟩
theorem uW:QOp X (OF .Add) (rI0 λi j=>.int (i+j)):=⟨vY⟩
theorem zS:QOp X (OF .Sub) (rI0 λi j=>.int (i - j)):=⟨vZ⟩
theorem pw:QOp X (OF .FloorDiv) (rI B2 λi j=>.int (i / j)):=⟨sq⟩
theorem kb:QUn X (unaryOp .USub) (rU λi=>.int (-i)):=⟨uO⟩
theorem aT{K:EG}(hK:X.K=K:=by rfl):QIx X (zw K):=by subst hK;exact⟨wG⟩
theorem eW{K:EG}(hK:X.K=K:=by rfl):QIx X (Br K):=by subst hK;exact⟨zx⟩
theorem pz{K:EG}(hK:X.K=K:=by rfl):QSl X (Ce K):=by subst hK;exact⟨wH⟩
theorem mn:QC X (.builtin "abs") Ct:=⟨zG⟩
theorem pA:QC X (.type "int") wO:=⟨zH⟩
theorem zT (hc:X.calm=true):QC X (.builtin "min") wQ:=⟨zI hc⟩
theorem a8 {K:EG}(hK:X.K=K:=by rfl):QC X (.builtin "len") (Bt K):=by subst hK;exact⟨zJ⟩
theorem zU {K:EG}(hc:X.calm=true) (hK:X.K=K:=by rfl):QC X (.builtin "sum") (Cu K):=by subst hK;exact⟨zK hc⟩
theorem uX {K:EG}(hc:X.calm=true) (hK:X.K=K:=by rfl):QC X (.builtin "all") (Cv K):=by subst hK;exact⟨zL hc⟩
theorem iY {K:EG}(hK:X.K=K:=by rfl):QC X (.builtin "isinstance") (rW K):=by subst hK;exact⟨zM⟩
theorem gv {K:EG}(hK:X.K=K:=by rfl):QC X (.type "tuple") (gu K):=by subst hK;exact⟨tw⟩
end
section
variable{P:Program}{w:World}{K:EG}{mg:Str->Option Value}{base:Heap}
theorem Fun.okQ{st:Stmt}{f:Addr}{fd:FuncData}{N ps:List Str}{sp:Sp}(F:Fun K x qual st f fd)(S:FnScope N ps (aL st))(len:∀vs H Q E,sp vs H Q E->vs.length=ps.length)
  (hbody:∀(cdv:Value) (A:Around) (outer:List Env) (s:Shared) (H:Hp) (vs:List V) (Q:VK) (E:XK),Room k (A.deeper (envOfC qual (aL st) s.heap.objs.size f cdv))->sp vs H Q E->
   ∃t,QB (sH CX0 P w K mg base N qual (aL st) f cdv A outer s H E).nox (cB st) t/\t { nx:=λ_ H'=>Q .non H',rt:=Q } (dq N vs) H):FnOk P w K mg base CX0 (k+1) f fd ps sp:=
 F.ok S len λcdv A outer s H vs Q E hr hsp=>by
  obtain⟨t,h,q⟩:=hbody cdv A outer s H vs Q E hr hsp;exact⟨t,h.out,q⟩
end
def CD(K:EG)(te:TE):TE:=λσ H Q=>te σ H λx H1=>∃a xs,x=.ref a/\SqL K H1 a xs/\∀p,H1 p=none->Q (.ref p) (upd H1 p (.lst xs.reverse))
section
variable{X:Cx}{e:Expr}{te:TE}{pos p1 p2 p3:Pos}{j:Nat}
theorem zV(he:PE X e te):PE X (.Subscript e (.Slice none none (some (.UnaryOp .USub (.Constant (.int 1) j p1) p2)) p3) pos) (CD X.K te):=by
 intro pins s σ H Q I h;refine Subscript_ (thn (he pins s σ H _ I h) λv s1 ⟨x,H1,I1,r1,q1⟩=>?_);obtain⟨a,xs,rfl,hx,q⟩:=q1;cases r1;refine wpAny_Slice (evalPart_none_step (evalPart_none_step (evalPart_some_step ?_)));refine thn (ze (X:=X) uO uK pins s1 σ H1 (λx H'=>x=.int (-1)/\H'=H1) I1 ⟨1,rfl,rfl,rfl⟩) λvk s2 ⟨y,H2,I2,r2,e2,e3⟩=>?_
 subst e2 e3;obtain⟨t,rfl⟩:=r2;have I4:Inv X pins σ H2 { s2 with heap:=s2.heap.push { cls:=.type "slice",data:=.fields #[.none,.none,.int (-1) t] } }:=I2.kept (t':=s2.toks) λb ob q=>EJ _ q
 obtain⟨its,r,ht,hz⟩:=I4.list hx;have hlen:=r.length;show wpAny (model X.prog X.w) X.A (subscriptTail e (.Slice none none (some (.UnaryOp .USub (.Constant (.int 1) j p1) p2)) p3) (.ref a) (.ref s2.heap.objs.size)) (EP X pins σ Q) X.xe { s2 with heap:=s2.heap.push { cls:=.type "slice",data:=.fields #[.none,.none,.int (-1) t] } }
 refine tail_any (ops:=[.ref a,.ref s2.heap.objs.size]) ht.isList.typeIs slot_list_getitem.lookup ?_ (by with_unfolding_all rfl);refine wpAny_getItem_list_slice ht.isList (Kn ..) .none .none (.int (-1) t) (by decide) ?_ (by rw[EW];lia);rw[PySem.W.krv_pick];refine⟨.ref _,_,I4.laid (t':=s2.toks) (o:=.lst xs.reverse) (λb ob q=>EJ _ q) (EI _) ?_,rfl,q _ (I4.hok.fresh (EI _))⟩;exact⟨by rw[J8];exact hz,its.reverse,0,r.reverse,E5 _ rfl⟩
theorem zW{K:EG}(he:QE X e te)(hK:X.K=K:=by rfl):QE X (.Subscript e (.Slice none none (some (.UnaryOp .USub (.Constant (.int 1) j p1) p2)) p3) pos) (CD K te):=by subst hK;exact⟨zV he.out⟩
end
section
variable{X:Cx}
end
section
variable{K:EG}{σ:St}{H:Hp}{Q:VK}{D:Ends}
theorem DH{te:TE}(h:te σ H λx H1=>∃a xs,x=.ref a/\SqL K H1 a xs/\∀p,H1 p=none->Q (.ref p) (upd H1 p (.lst xs.reverse))):CD K te σ H Q:=h
theorem CF{tb:TE}(h:ta σ H λx H1=>tb σ H1 λy H2=>(λx y=>∃v w,[x,y]=[v,w]/\D.nx ((σ.set i (some v)).set j (some w)) H2) x y):BW i j (nJ ta (nJ tb wq)) D σ H:=h
theorem wZ{x y:V}{R:V->V->Prop}(h:R x y):∃v w,[x,y]=[v,w]/\R v w:=⟨x,y,rfl,h⟩
theorem Ei{r:V->List V->Hp->VK->Prop}{to:TE}{T:String}(h:to σ H λx H1=>tyV K T x H1/\t σ H1 λxs H2=>r x xs H2 Q):tBM K T r to t σ H Q:=h
theorem aM{y:V}(s:H l=some (.lst xs))(z:xs.length<sizeLine)(h:Q .non (upd H l (.lst (xs++[y])))):lg (.ref l) [y] H Q:=⟨l,xs,y,rfl,rfl,s,z,h⟩
theorem aZ (h:H l=some (.lst xs)):tyV K "list" (.ref l) H:=.inl ⟨rfl,_,N4 h⟩
theorem Same.tup{H1:Hp}{a:Addr}{xs:List V}(e:Same H H1)(h:SqT K H a xs):SqT K H1 a xs:=by
 rcases h with(h|⟨o,h⟩)|h
 ·exact .inl (.inl (e _ _ h))
 ·exact .inl (.inr ⟨o,e _ _ h⟩)
 ·exact .inr h
theorem Same.new(e:Same H H1)(h:H1 p=none):Same H (upd H1 p o):=λb u q=>by rw[ak (ao (e b u q) h)];exact e b u q
theorem Same.own(e:Same H H1)(h:H p=none):Same H (upd H1 p o):=λb u q=>by rw[ak (ao q h)];exact e b u q
theorem Stp.same{p:Addr}{H1 H2:Hp}(s:Stp p H H1)(e:Same H1 H2):Stp p H H2:=⟨λq o h n=>e q o (s.keep q o h n),s.tape.same e⟩
end
def Nx(n i:Nat)(P:Prop):Prop:=∃m',m'<n - i/\m'=n - (i+1)/\i+1<=n/\P
theorem Nx.mk{P:Prop}(h:i<n)(p:P):Nx n i P:=⟨n - (i+1),by lia,rfl,h,p⟩
section
variable{K:EG}{H:Hp}{g:TG}{te:TE}{σ0:St}{R:List V->Hp->Prop}
theorem jn(Pv:Nat->List V->St->Hp->Prop)(hz:n<sizeLine)(hl:∀i ys σ H,Pv i ys σ H->ys.length=i)(h0:Pv 0 [] σ0 H)
  (hs:∀i ys σ H,i<n->Pv i ys σ H->g (.int (0+i)) σ H λσ2 H2=>te σ2 H2 λy H3=>Nx n i (Pv (i+1) (ys++[y]) σ2 H3)) (hd:∀ys σ H,Pv n ys σ H->R ys H) :
  ∃W:Nat->Nat->List V->St->Hp->Prop,(∃m,W 0 m [] σ0 H)/\∀i m xs σc H,W i m xs σc H->xs.length<sizeLine/\
  (((Itr 0 n).stop i H/\R xs H)\/((Itr 0 n).go i H/\∀x H',(Itr 0 n).yld i H x H'->g x σc H' λσ2 H2=>te σ2 H2 λy H3=>∃m',m'<m/\W (i+1) m' (xs++[y]) σ2 H3)):=by
 refine⟨λi m xs σ H=>m=n - i/\i<=n/\Pv i xs σ H,⟨n,by simp,EU _,h0⟩,?_⟩;rintro i m xs σ H ⟨rfl,hi,p⟩;refine⟨by rw[hl i xs σ H p];exact FC hi hz,?_⟩;by_cases hlt:i<n
 ·refine .inr ⟨hlt,λx H' y=>?_⟩
  obtain⟨e,y⟩:=y;subst e y;exact hs i xs σ _ hlt p
 ·have e:i=n:=by lia
  subst e;exact .inl ⟨EI _,hd xs σ H p⟩
theorem dS{vs:List V}(Pv:Nat->List V->St->Hp->Prop)(hz:vs.length<sizeLine)(hl:∀i ys σ H,Pv i ys σ H->ys.length=i)(ht:∀i ys σ H,Pv i ys σ H->SqT K H a vs)(h0:Pv 0 [] σ0 H)
  (hs:∀i ys σ H x,vs[i]? = some x->Pv i ys σ H->g x σ H λσ2 H2=>te σ2 H2 λy H3=>Nx vs.length i (Pv (i+1) (ys++[y]) σ2 H3)) (hd:∀ys σ H,Pv vs.length ys σ H->R ys H) :
  ∃W:Nat->Nat->List V->St->Hp->Prop,(∃m,W 0 m [] σ0 H)/\∀i m xs σc H,W i m xs σc H->xs.length<sizeLine/\
  (((Itt K a).stop i H/\R xs H)\/((Itt K a).go i H/\∀x H',(Itt K a).yld i H x H'->g x σc H' λσ2 H2=>te σ2 H2 λy H3=>∃m',m'<m/\W (i+1) m' (xs++[y]) σ2 H3)):=by
 refine⟨λi m xs σ H=>m=vs.length - i/\i<=vs.length/\Pv i xs σ H,⟨vs.length,by simp,EU _,h0⟩,?_⟩;rintro i m xs σ H ⟨rfl,hi,p⟩;have q:=ht i xs σ H p;refine⟨by rw[hl i xs σ H p];exact FC hi hz,?_⟩;by_cases hlt:i<vs.length
 ·refine .inr ⟨⟨vs,vs[i],q,by simp[hlt]⟩,λx H' y=>?_⟩
  obtain⟨e,y⟩:=y;subst e;exact hs i xs σ _ x (y vs q) p
 ·have e:i=vs.length:=by lia
  subst e;exact .inl ⟨⟨vs,q,EI _⟩,hd xs σ H p⟩
theorem bN{vs:List V}(Pv:Nat->List V->St->Hp->Prop)(hz:vs.length<sizeLine)(hl:∀i ys σ H,Pv i ys σ H->ys.length=i)(ht:∀i ys σ H,Pv i ys σ H->SqL K H a vs)(h0:Pv 0 [] σ0 H)
  (hs:∀i ys σ H x,vs[i]? = some x->Pv i ys σ H->g x σ H λσ2 H2=>te σ2 H2 λy H3=>Nx vs.length i (Pv (i+1) (ys++[y]) σ2 H3)) (hd:∀ys σ H,Pv vs.length ys σ H->R ys H) :
  ∃W:Nat->Nat->List V->St->Hp->Prop,(∃m,W 0 m [] σ0 H)/\∀i m xs σc H,W i m xs σc H->xs.length<sizeLine/\
  (((Itl K a).stop i H/\R xs H)\/((Itl K a).go i H/\∀x H',(Itl K a).yld i H x H'->g x σc H' λσ2 H2=>te σ2 H2 λy H3=>∃m',m'<m/\W (i+1) m' (xs++[y]) σ2 H3)):=by
 refine⟨λi m xs σ H=>m=vs.length - i/\i<=vs.length/\Pv i xs σ H,⟨vs.length,by simp,EU _,h0⟩,?_⟩;rintro i m xs σ H ⟨rfl,hi,p⟩;have q:=ht i xs σ H p;refine⟨by rw[hl i xs σ H p];exact FC hi hz,?_⟩;by_cases hlt:i<vs.length
 ·refine .inr ⟨⟨vs,vs[i],q,by simp[hlt]⟩,λx H' y=>?_⟩
  obtain⟨e,y⟩:=y;subst e;exact hs i xs σ _ x (y vs q) p
 ·have e:i=vs.length:=by lia
  subst e;exact .inl ⟨⟨vs,q,EI _⟩,hd xs σ H p⟩
end
noncomputable def dg(n b m:Nat):List Int:=(EZ m).map λj=>((n / b ^ (m - 1 - j) % b:Nat):Int)
theorem zX(n b m:Nat):((EZ m).map λj=>N7 ((n / b ^ j % b:Nat):Int)).reverse=(dg n b m).map N7:=by
 unfold dg;rw[<-List.map_reverse,<-PySem.W.krv_range,Gd,Gd];rfl
section
variable{X:Cx}{N tgs frs:List Str}{ix:List Nat}{scope:Scope}{cl:List (Str×Addr)}
theorem w6{te:TE}(hN:X.N.Nodup)(hy:X.N[iy]? = some y)(hx:Loc X.env.scope y)(c:CompOk X N tgs frs ix scope cl)(hc:X.calm=true)(hi:PI X tg iter wi)
  (hg:∀fp C s H,PG (ay X N scope cl fp C s H) tg g) (he:∀fp C s H,PE (ay X N scope cl fp C s H) elt te)
  (hs:∀x,Ol iter X.env x=pure x:=by intro _;rfl)
  (hsw:OC (.ListComp elt [⟨tg,iter,[],0⟩] scope pos) (some (.Name y py)) spos.line X.env=pure true:=by rfl)
  (hf:X.fn y=true\/X.env.scope.names.lookup y=some .local:=by first|exact .inl rfl|exact .inr rfl|assumption) :
  PS X (.Assign [.Name y py] (.ListComp elt [⟨tg,iter,[],0⟩] scope pos) spos) (ow (pd wi g te tgs ix) (dJ iy)):=pf (oc:=none) (tb:=tbE te) hN hy hx c hc hi hg (λfp C s H=>.no (he fp C s H)) hs hsw hf
theorem pB{te:TE}(hN:X.N.Nodup)(hy:X.N[i]? = some y)(hx:Loc X.env.scope y)(c:CompOk X N tgs frs ix scope cl)(hc:X.calm=true)(hi:QI X tg iter wi)
  (hg:∀fp C s H,QG (ay X N scope cl fp C s H) tg g) (he:∀fp C s H,QE (ay X N scope cl fp C s H) elt te)
  (hs:∀x,Ol iter X.env x=pure x:=by intro _;rfl)
  (hsw:OC (.ListComp elt [⟨tg,iter,[],0⟩] scope pos) (some (.Name y py)) spos.line X.env=pure true:=by rfl)
  (hf:X.fn y=true\/X.env.scope.names.lookup y=some .local:=by first|exact .inl rfl|exact .inr rfl|assumption) :
  QS X (.Assign [.Name y py] (.ListComp elt [⟨tg,iter,[],0⟩] scope pos) spos) (ow (pd wi g te tgs ix) (dJ i)):=
 ⟨w6 hN hy hx c hc hi.out (λfp C s H=>(hg fp C s H).out) (λfp C s H=>(he fp C s H).out) hs hsw hf⟩
end
section
variable{prog:Program}{w:World}{A:Around}{E:Value->Shared->Prop}{s:Shared}
end
section
variable{X:Cx}{pos:Pos}{u:TGs}
end
noncomputable def eX(bs:List Nat):Nat:=bs.foldl Hi 1
theorem mq(m n:Nat):m / Gn m n*n=Hi m n:=by
 rw[Hi,Nat.div_mul_right_comm (Lf m n)]
theorem mr:∀(bs:List Nat) (a m:Nat),a∣m->(∀b∈bs,b∣m)->bs.foldl Hi a∣m
 | [],a,m,h,_=>h
 | b::bs,a,m,h,hb=>mr bs _ m (Nat.lcm_dvd h (hb b (by simp))) λc hc=>hb c (by simp[hc])
theorem mw:∀(bs:List Nat) (a:Nat),a∣bs.foldl Hi a/\∀b∈bs,b∣bs.foldl Hi a
 | [],a=>⟨Nat.dvd_refl a,λ_ h=>nomatch h⟩
 | b::bs,a=>by
  obtain⟨h1,h2⟩:=mw bs (Hi a b);refine⟨Me (Nat.dvd_lcm_left a b) h1,λc hc=>?_⟩;rcases EO.mp hc with rfl|hc
  ·exact Me (Nat.dvd_lcm_right a c) h1
  ·exact h2 c hc
theorem tI{bs:List Nat}(h:∀b∈bs,b∣m):eX bs∣m:=mr bs 1 m (Nat.one_dvd m) h
theorem mx{bs:List Nat}(h:b∈bs):b∣eX bs:=(mw bs 1).2 b h
theorem my{bs:List Nat}(h:∀b∈bs,1<=b/\b<=60):0<eX bs:=by
 have:∀(bs:List Nat) (a:Nat),0<a->(∀b∈bs,1<=b/\b<=60)->0<bs.foldl Hi a:=by
  intro bs
  induction bs with
  | nil=>intro a ha _;exact ha
  | cons b bs ih=>intro a ha hb;exact ih _ (Nat.lcm_pos ha (by have:=(hb b (by simp)).1;lia)) λc hc=>hb c (by simp[hc])
 exact this bs 1 (by decide) h
theorem kc(bs:List Nat)(i:Nat)(b:Nat)(h:bs[i]? = some b):eX (bs.take (i+1))=Hi (eX (bs.take i)) b:=by
 have et:bs.take (i+1)=bs.take i++[b]:=by rw[E3,h];rfl
 unfold eX;rw[et,KU];rfl
noncomputable def yG:Nat:=2 ^ 5*(3 ^ 3*(5 ^ 2*(7 ^ 2*(11 ^ 1*(13 ^ 1*(17 ^ 1*(19 ^ 1*(23 ^ 1*(29 ^ 1*(31 ^ 1*(37 ^ 1*(41 ^ 1*(43 ^ 1*(47 ^ 1*(53 ^ 1*(59 ^ 1*1))))))))))))))))
theorem pC:∀b,b<=60->1<=b->b∣yG:=by
 have key:∀b:_root_.Fin 61,1<=b.val->yG % b.val=0:=by decide +kernel
 intro b h1 h2;exact Nat.dvd_of_mod_eq_zero (key ⟨b,by lia⟩ h2)
theorem zY{bs:List Nat}(hb:∀b∈bs,1<=b/\b<=60):eX bs∣yG:=tI λb h=>pC b (hb b h).2 (hb b h).1
theorem mz{g l:Nat}(h:0<l):Gn l (g % l)=Gn g l:=by
 rw[ML g l,Nat.gcd_rec l g,ML]
theorem Stp.free{H:Hp}(s:Stp p H H1)(h:H1 q=none):H q=none:=by
 cases e:H q with
 | none=>rfl
 | some o=>
  have hne:q≠p:=s.tape.ne h;have:=s.keep q o e hne;rw[h]at this;cases this
def ke(H:Hp)(ps:List Addr)(tb:List (Int×Nat)):Prop:=ps.length=tb.length/\∀(i:Nat) (p:Addr) (z:Int×Nat),ps[i]? = some p->tb[i]? = some z->H p=some (.tup [.int z.1,.int z.2])
theorem bR{α:Type}{xs:List α}{x:α}{y:α}(h:(xs++[x])[i]? = some y):(i<xs.length/\xs[i]? = some y)\/(i=xs.length/\y=x):=by
 rcases G3 i xs.length with l|l|l
 ·rw[E6 l]at h;exact .inl ⟨l,h⟩
 ·subst l;simp at h;exact .inr ⟨rfl,h.symm⟩
 ·rw[Ie (by simp;lia)]at h;cases h
section
variable{X:Cx}{pins:List (Addr×Obj)}{σ:St}{H:Hp}{s:Shared}{h':Heap}
theorem Inv.turnedAll(I:Inv X pins σ H s)(k:∀b o,b∉ch->s.heap.get? b=some o->h'.get? b=some o)(hf:∀b∈ch,ox X pins H b):Inv X pins σ H { s with heap:=h',toks:=t' }:=by
 have nit:∀b u,H b=some u->b∉ch:=λb u e z=>by rw[(hf b z).1]at e;cases e
 refine I.step (g':=s.gens) (d':=s.drawn) (ch:=ch) (λb hb=>?_) (λb o _ _ hc e _=>k b o hc e) (λb o _ _ hc e _=>⟨o.slots,k b o hc e⟩) (λ_ _ _ _ n=>n)
  (λb o hc e=>⟨o,k b o hc e⟩) (λ_ _ e=>e) (λ_ _ _ e=>e) (λb ps e=>⟨#[],by rw[e];simp⟩) (λm hm=>?_) (λb u e=>?_) I.bare
 ·obtain⟨_,f1,_,f3,f4,f5⟩:=hf b hb
  exact⟨f3,f1,f4,f5⟩
 ·obtain⟨o,es,ep,q,r⟩:=hm
  exact⟨o,es,ep,k _ o (λz=>(hf _ z).2.1 rfl) q,r⟩
 ·refine(I.hok b u e).stay (λc v hc q=>k c v ?_ q) (λ_ q=>q) λ_ _ q=>q
  rcases hc with z|z
  ·rw[z];exact nit b u e
  ·exact nit c _ z
end
section
variable{X:Cx}
def zZ(K:EG):RC:=λxs H Q=>∃(p:Addr) (ns:List Int),xs=[.ref p]/\(SqL K H p (ns.map N7)\/SqT K H p (ns.map N7))/\ns≠[]/\∀M,M∈ns->(∀a∈ns,M<=a)->Q (.int M) H
def z6(K:EG):RC:=λxs H Q=>∃(p:Addr) (ns:List Int),xs=[.ref p]/\(SqL K H p (ns.map N7)\/SqT K H p (ns.map N7))/\ns≠[]/\∀M,M∈ns->(∀a∈ns,a<=M)->Q (.int M) H
theorem eH{zs:Array (Int×Tok)}{ns:List Int}(hn:zs.toList.map (·.1)=ns)(i:Nat):numAt zs i=ns.getD i 0:=by
 subst hn;unfold numAt;rw[EH,EN,Ig]
theorem mB{zs:Array (Int×Tok)}{ns:List Int}(hn:zs.toList.map (·.1)=ns)(h0:ns≠[]):let M:=numAt zs (argBest (λi j=>decide (numAt zs i<numAt zs j)) (zs.size - 1));M∈ns/\∀a∈ns,M<=a:=by
 have hz:ns.length=zs.size:=by rw[<-hn];simp
 have hp:0<ns.length:=FR.mpr h0;obtain⟨b1,b2⟩:=argBest_lt (numAt zs) (zs.size - 1);refine⟨?_,λa ha=>?_⟩
 ·rw[eH hn,EH,EF ⋯]
  exact Fh _
 ·obtain⟨j,hj,rfl⟩:=GJ.mp ha
  have:=b2 j ⋯;rw[eH hn j,EH,EF hj]at this;exact this
theorem mC{zs:Array (Int×Tok)}{ns:List Int}(hn:zs.toList.map (·.1)=ns)(h0:ns≠[]):let M:=numAt zs (argBest (λi j=>decide (numAt zs i > numAt zs j)) (zs.size - 1));M∈ns/\∀a∈ns,a<=M:=by
 have hz:ns.length=zs.size:=by rw[<-hn];simp
 have hp:0<ns.length:=FR.mpr h0;obtain⟨b1,b2⟩:=argBest_gt (numAt zs) (zs.size - 1);refine⟨?_,λa ha=>?_⟩
 ·rw[eH hn,EH,EF ⋯]
  exact Fh _
 ·obtain⟨j,hj,rfl⟩:=GJ.mp ha
  have:=b2 j ⋯;rw[eH hn j,EH,EF hj]at this;exact this
theorem eI{ns:List Int}(rv:Vals (ns.map N7) its):∃zs:Array (Int×Tok),its.toArray=OL zs/\zs.toList.map (·.1)=ns:=by
 have hi:Ou its ns:=ck rv;obtain⟨zs,hx⟩:=hi.allInts.items;have hn:numsOf its.toArray.toList=ns:=by rw[show its.toArray.toList=its from rfl,hi.numsOf]
 rw[hx,nums_intItems]at hn;exact⟨zs,hx,hn⟩
theorem kf {t:Addr}{items:Array Value}(ht:h.IsTuple t items):∀b∈[h.objs.size,t],b<(h.push { cls:=.type "tuple_iterator",data:=.fields #[.ref t,.int 0 0] }).objs.size:=by
 intro b hb;rw[Ht];obtain⟨_,e,_⟩:=ht;simp only[EO,Fl,or_false]at hb;rcases hb with rfl|rfl
 ·exact Jf _
 ·exact GH (EV e)
theorem mD{g:Heap}{o:Obj}(hk:∀b u,b∉[h.objs.size]->(h.push o).get? b=some u->g.get? b=some u):∀b u,h.get? b=some u->g.get? b=some u:=λb u e=>by
 refine hk b u ?_ (EJ _ e);intro hm;have e2:b=h.objs.size:=by simpa using hm
 exact absurd (e2▸EV e) (FM _)
theorem pD {K:EG}(hc:X.calm=true) (hK:X.K=K:=by rfl):QC X (.builtin "min") (zZ K):=by
 subst hK;refine⟨λpins s σ H xs us Q I r h=>?_⟩;obtain⟨p,ns,rfl,hq,h0,q⟩:=h;obtain⟨u,rfl,ru⟩:=cG r;cases ru;rcases hq with hq|hq
 ·obtain⟨its,rv,hp,hz⟩:=I.list hq
  obtain⟨zs,hx,hn⟩:=eI rv;have hl:=hp.isList;rw[hx]at hl;obtain⟨m1,m2⟩:=mB hn h0;refine min_intList (I.ok.hd hc) hl ?_ λv h' tk hv hk=>?_
  ·have:zs.toList.length=ns.length:=by rw[<-hn];simp
   have:=FR.mpr h0;simp at *;lia
  ·obtain⟨t,rfl⟩:=intItems_at hv
   exact⟨.int _,H,I.kept hk,⟨t,rfl⟩,q _ m1 m2⟩
 ·obtain⟨its,rv,hp,hz⟩:=I.tuple hq
  obtain⟨zs,hx,hn⟩:=eI rv;have ht:s.heap.IsTuple p (OL zs):=by rw[<-hx];exact hp
  have hlt:p<s.heap.objs.size:=by obtain⟨_,e,_⟩:=ht;exact EV e
  obtain⟨m1,m2⟩:=mB hn h0;refine call_min_walk (wpAny_pyIter_tuple ht ?_);refine⟨_,_,_,_,_,_,_,rfl,MZ (A:=X.A.in1) (I.ok.hd hc) _ p (Fc hlt) (OL zs),⟨⟨_,E5 _ rfl,rfl,rfl⟩,ht.push _⟩,kf ht,?_,CmpOf.ints_lt (numAt zs) (λ_ _=>intItems_at),λv h' tk hv hk=>?_⟩
  ·have:zs.toList.length=ns.length:=by rw[<-hn];simp
   have:=FR.mpr h0;simp[OL]at *;lia
  ·have hv':(OL zs)[argBest (λi j=>decide (numAt zs i<numAt zs j)) (zs.size - 1)]? = some v:=by simpa [OL]using hv
   obtain⟨t,rfl⟩:=intItems_at hv';exact⟨.int _,H,I.kept (mD hk),⟨t,rfl⟩,q _ m1 m2⟩
theorem pE {K:EG}(hc:X.calm=true) (hK:X.K=K:=by rfl):QC X (.builtin "max") (z6 K):=by
 subst hK;refine⟨λpins s σ H xs us Q I r h=>?_⟩;obtain⟨p,ns,rfl,hq,h0,q⟩:=h;obtain⟨u,rfl,ru⟩:=cG r;cases ru;rcases hq with hq|hq
 ·obtain⟨its,rv,hp,hz⟩:=I.list hq
  obtain⟨zs,hx,hn⟩:=eI rv;have hl:=hp.isList;rw[hx]at hl;obtain⟨m1,m2⟩:=mC hn h0;refine max_intList (I.ok.hd hc) hl ?_ λv h' tk hv hk=>?_
  ·have:zs.toList.length=ns.length:=by rw[<-hn];simp
   have:=FR.mpr h0;simp at *;lia
  ·obtain⟨t,rfl⟩:=intItems_at hv
   exact⟨.int _,H,I.kept hk,⟨t,rfl⟩,q _ m1 m2⟩
 ·obtain⟨its,rv,hp,hz⟩:=I.tuple hq
  obtain⟨zs,hx,hn⟩:=eI rv;have ht:s.heap.IsTuple p (OL zs):=by rw[<-hx];exact hp
  have hlt:p<s.heap.objs.size:=by obtain⟨_,e,_⟩:=ht;exact EV e
  obtain⟨m1,m2⟩:=mC hn h0;refine call_max_walk (wpAny_pyIter_tuple ht ?_);refine⟨_,_,_,_,_,_,_,rfl,MZ (A:=X.A.in1) (I.ok.hd hc) _ p (Fc hlt) (OL zs),⟨⟨_,E5 _ rfl,rfl,rfl⟩,ht.push _⟩,kf ht,?_,Mf (numAt zs) (λ_ _=>intItems_at),λv h' tk hv hk=>?_⟩
  ·have:zs.toList.length=ns.length:=by rw[<-hn];simp
   have:=FR.mpr h0;simp[OL]at *;lia
  ·have hv':(OL zs)[argBest (λi j=>decide (numAt zs i > numAt zs j)) (zs.size - 1)]? = some v:=by simpa [OL]using hv
   obtain⟨t,rfl⟩:=intItems_at hv';exact⟨.int _,H,I.kept (mD hk),⟨t,rfl⟩,q _ m1 m2⟩
end
section
variable{K:EG}{H:Hp}{Q:VK}
theorem pF{ns:List Int}(hs:SqL K H p (ns.map N7)\/SqT K H p (ns.map N7))(h0:ns≠[])(h:∀M,M∈ns->(∀a∈ns,M<=a)->Q (.int M) H):zZ K [.ref p] H Q:=⟨p,ns,rfl,hs,h0,h⟩
theorem pG{ns:List Int}(hs:SqL K H p (ns.map N7)\/SqT K H p (ns.map N7))(h0:ns≠[])(h:∀M,M∈ns->(∀a∈ns,a<=M)->Q (.int M) H):z6 K [.ref p] H Q:=⟨p,ns,rfl,hs,h0,h⟩
end
section
variable{prog:Program}{w:World}{A:Around}{E:Value->Shared->Prop}{s:Shared}
end
def CG(K:EG)(a:Addr):It:=
 ⟨λi H=>∃xs x,SqL K H a xs/\xs[i]? = some x,λi H v H'=>∃p x,v=.ref p/\H p=none/\H'=upd H p (.tup [.int i,x])/\∀xs,SqL K H a xs->xs[i]? = some x,λi H=>∃xs,SqL K H a xs/\xs.length=i⟩
theorem gS{b:Addr}{o u:Obj}{x y:String}(e1:h.get? a=some o)(c1:o.cls=.type x)(e2:h.get? b=some u)(c2:u.cls=.type y)(hn:x≠y):a≠b:=λz=>by
 subst z;rw[e1]at e2;cases e2;rw[c1]at c2;exact hn (by injection c2)
theorem Inv.pair{H:Hp}{s:Shared}{g:Heap}{tk:Nat}{v:Value}{x y:V}(I:Inv X pins σ H s)(k:∀b o,b∉ch->s.heap.get? b=some o->g.get? b=some o)(hf:∀b∈ch,ox X pins H b)
  (hg:g.get? s.heap.objs.size=some { cls:=.type "tuple",data:=.seq #[u,v] }) (rx:RelV x u) (ry:RelV y v):Inv X pins σ (upd H s.heap.objs.size (.tup [x,y])) { s with heap:=g,toks:=tk }/\H s.heap.objs.size=none:=by
 have I1:Inv X pins σ H { s with heap:=g,toks:=tk }:=I.turnedAll k hf;have hn:H s.heap.objs.size=none:=I.hok.fresh (EI _);obtain⟨_,f1,f2,f3,f4,f5⟩:=I.fpOk (EI _) hn;refine⟨I1.adopt hn f1 f3 f4 f5 ?_,hn⟩;exact⟨by show 2<=sizeLine;decide,[u,v],.cons rx (.cons ry .nil),⟨_,hg,rfl,_,rfl⟩⟩
theorem nQ{w:World}{K:EG}{elts:List Expr}(a e it:Addr)(hei:e≠it):Turn P w K (.Tuple elts k pos) (CG K a) [e,it] e (λi h=>(∃old,IsEnum h e it i old)/\h.IsListIter it a i) where
 mem:=by simp
 obj:=λi h st b hb=>by
  obtain⟨⟨old,q⟩,o,q1,q2,q3⟩:=st;simp only[EO,Fl,or_false]at hb;rcases hb with rfl|rfl
  ·exact⟨_,q,λv z=>by cases z⟩
  ·exact⟨o,q1,λv z=>by rw[q3]at z;cases z⟩
 keep:=λi h h' st kk=>by
  obtain⟨⟨old,q⟩,o,q1,q2⟩:=st;exact⟨⟨old,kk e (by simp) _ q⟩,o,kk it (by simp) o q1,q2⟩
 item:=by
  intro X hP hw hK hc i pins s σ H E I hf st hg;subst hP hw hK;obtain⟨xs,x,hq,hx⟩:=hg;obtain⟨its,rv,p,hz⟩:=I.list hq;obtain⟨u,hu,ru⟩:=rv.get hx;have hl:=rv.length;have hil:i<its.toArray.size:=by have:=(EM.mp hu).1;simpa using this
  obtain⟨⟨old,q⟩,q2⟩:=st;have hne:a≠it:=by
   obtain⟨o1,g1,g2,_⟩:=p.isList;obtain⟨o2,g3,g4,_⟩:=q2;exact gS g1 g2 g3 g4 (by decide)
  have hea:e≠a:=by
   obtain⟨o1,g1,g2,_⟩:=p.isList;exact gS q rfl g1 g2 (by decide)
  refine wpAny_pyNext_enum_itemD (Nk (A:=X.A.in1) (I.ok.hd hc) it a hne its.toArray) q ⟨q2,p.isList⟩ hil hei (by simp[hei,hea]) λy h' tk hP ho hs' hT hsz hk=>⟨_,rfl,wpAny_letOwnedTupleGo_enum ho λg he' sb=>?_⟩
  have ey:y=u:=by
   have h1:its.toArray[i]? = some u:=by simpa using hu
   exact EY (hP.symm.trans h1)
  subst ey;have hTe:s.heap.objs.size≠e:=GL (EV q);have lt2:it<s.heap.objs.size:=by obtain⟨o2,g3,_⟩:=q2;exact EV g3
  obtain⟨I2,hn⟩:=I.pair (g:=g) (tk:=tk+1) (ch:=[e,it]) (x:=.int i) (y:=x) (λb o hb r=>(sb.2 b (λz=>hb (by simp[z]))).trans (hk b o (λz=>hb (by simp[z])) (λz=>hb (by simp[z])) r)) hf ((sb.2 _ hTe).trans hT) ⟨tk,rfl⟩ ru;refine⟨.ref s.heap.objs.size,_,I2,rfl,⟨_,x,rfl,hn,rfl,λys hy=>by rw[I.list_inj hy hq];exact hx⟩,⟨⟨_,by simpa using he'⟩,hs'.1.at λo r=>(sb.2 it hei.symm).trans r⟩,λb hb=>?_⟩;simp only[EO,Fl,or_false]at hb;rcases hb with rfl|rfl
  ·rw[ak hTe.symm];exact(hf _ (by simp)).1
  ·rw[ak (Fc lt2)];exact(hf _ (by simp)).1
 done:=by
  intro X hP hw hK hc i pins s σ H E I hf st hg;subst hP hw hK;obtain⟨xs,hq,hx⟩:=hg;obtain⟨its,rv,p,hz⟩:=I.list hq;obtain⟨⟨old,q⟩,q2⟩:=st;have hl:=rv.length;have hne:a≠it:=by
   obtain⟨o1,g1,g2,_⟩:=p.isList;obtain⟨o2,g3,g4,_⟩:=q2;exact gS g1 g2 g3 g4 (by decide)
  have hi:its.toArray.size=i:=by simp;lia
  subst hi;refine wpAny_pyNext_enum_endD (Nk (A:=X.A.in1) (I.ok.hd hc) it a hne its.toArray) q ⟨q2,p.isList⟩ λh' eb=>⟨rfl,I.turnedAll (t':=s.toks) (ch:=[it]) (λb o hb r=>eb b o (λz=>hb (by simp[z])) r) λb hb=>hf b (by simp at hb;simp[hb])⟩
 self:=λ_ _ _ _ _ st h=>by
  obtain⟨⟨old,q⟩,_⟩:=st;exact wpAny_pyIter_enum q h
def Itz(K:EG)(a b:Addr):It:=
 ⟨λi H=>∃xs ys x y,SqL K H a xs/\SqL K H b ys/\xs[i]? = some x/\ys[i]? = some y,λi H v H'=>∃p x y,v=.ref p/\H p=none/\H'=upd H p (.tup [x,y])/\(∀xs,SqL K H a xs->xs[i]? = some x)/\∀ys,SqL K H b ys->ys[i]? = some y,λi H=>∃xs ys,SqL K H a xs/\SqL K H b ys/\(xs.length<=i\/ys.length<=i)⟩
theorem tJ{w:World}{K:EG}{elts:List Expr}(a b z TI TO i1 i2:Addr)(D:ZipApart z TI TO i1 i2 a b):
  Turn P w K (.Tuple elts k pos) (Itz K a b) [z,TI,TO,i1,i2] z (λi h=>IsZip h z TI TO .none/\IsPair h TI (.ref i1) (.ref i2)/\(∃u v,IsPair h TO u v)/\h.IsListIter i1 a i/\h.IsListIter i2 b i) where
 mem:=by simp
 obj:=λi h st c hb=>by
  obtain⟨q1,q2,⟨u,v,q3⟩,⟨o4,q4,_,d4⟩,⟨o5,q5,_,d5⟩⟩:=st;simp only[EO,Fl,or_false]at hb;rcases hb with rfl|rfl|rfl|rfl|rfl
  ·exact⟨_,q1,λv z=>by cases z⟩
  ·exact⟨_,q2,λv z=>by cases z⟩
  ·exact⟨_,q3,λv z=>by cases z⟩
  ·exact⟨o4,q4,λv z=>by rw[d4]at z;cases z⟩
  ·exact⟨o5,q5,λv z=>by rw[d5]at z;cases z⟩
 keep:=λi h h' st kk=>by
  obtain⟨q1,q2,⟨u,v,q3⟩,⟨o4,q4,r4⟩,⟨o5,q5,r5⟩⟩:=st;exact⟨kk z (by simp) _ q1,kk TI (by simp) _ q2,⟨u,v,kk TO (by simp) _ q3⟩,⟨o4,kk i1 (by simp) _ q4,r4⟩,⟨o5,kk i2 (by simp) _ q5,r5⟩⟩
 item:=by
  intro X hP hw hK hc i pins s σ H E I hf st hg;subst hP hw hK;obtain⟨xs,ys,x,y,hqx,hqy,hx,hy⟩:=hg;obtain⟨its,rv,p,hz⟩:=I.list hqx;obtain⟨jts,rw',p',hz'⟩:=I.list hqy;obtain⟨u,hu,ru⟩:=rv.get hx;obtain⟨v,hv,rv'⟩:=rw'.get hy;obtain⟨q1,q2,⟨u3,v3,q3⟩,q4,q5⟩:=st;have l1:=EV q1;have l2:=EV q2;have l3:=EV q3;have l4:i1<s.heap.objs.size:=by obtain⟨o,g,_⟩:=q4;exact EV g
  have l5:i2<s.heap.objs.size:=by obtain⟨o,g,_⟩:=q5;exact EV g
  refine wpAny_pyNext_zip_item D q1 q2 q3 q4 q5 p.isList p'.isList (x:=u) (y:=v) (by simpa using hu) (by simpa using hv) λh' a1 a2 a3 a4 a5 a6 a7=>⟨_,rfl,wpAny_letOwnedTupleGo_zip a1 λg hz2 sb=>?_⟩
  obtain⟨I2,hn⟩:=I.pair (g:=g) (tk:=s.toks) (ch:=[z,TO,i1,i2]) (x:=x) (y:=y) (λc o hb r=>(sb.2 c (λe=>hb (by simp[e]))).trans (a7 c o (λe=>hb (by simp[e])) (λe=>hb (by simp[e])) (λe=>hb (by simp[e])) (λe=>hb (by simp[e])) r)) (λc hb=>hf c (by simp at hb;rcases hb with e|e|e|e<;>simp[e])) ((sb.2 _ (GL l1)).trans a5) ru rv';refine⟨.ref s.heap.objs.size,_,I2,rfl,⟨_,x,y,rfl,hn,rfl,λzs h=>by rw[I.list_inj h hqx];exact hx,λzs h=>by rw[I.list_inj h hqy];exact hy⟩,⟨hz2,?_,⟨_,_,(sb.2 _ D.TOz).trans a2⟩,a3.at λo r=>(sb.2 i1 D.i1z).trans r,a4.at λo r=>(sb.2 i2 D.i2z).trans r⟩,λc hb=>?_⟩
  ·exact(sb.2 _ D.TIz).trans (a7 TI _ D.TIz D.TITO D.TIi1 D.TIi2 q2)
  ·have hc0:=(hf c hb).1
   simp only[EO,Fl,or_false]at hb;have:c<s.heap.objs.size:=by rcases hb with rfl|rfl|rfl|rfl|rfl<;>assumption
   rw[ak (Fc this)];exact hc0
 done:=by
  intro X hP hw hK hc i pins s σ H E I hf st hg;subst hP hw hK;obtain⟨xs,ys,hqx,hqy,hx⟩:=hg;obtain⟨its,rv,p,hz⟩:=I.list hqx;obtain⟨jts,rw',p',hz'⟩:=I.list hqy;have m1:=rv.length;have m2:=rw'.length;obtain⟨q1,q2,⟨u3,v3,q3⟩,q4,q5⟩:=st;refine wpAny_pyNext_zip_end (I.ok.hd hc) D q1 q2 q3 q4 q5 p.isList p'.isList ?_ λh' kk=>⟨rfl,I.turnedAll (t':=s.toks) (ch:=[z,TO,i1,i2]) (λc o hb r=>kk c o (λe=>hb (by simp[e])) (λe=>hb (by simp[e])) (λe=>hb (by simp[e])) (λe=>hb (by simp[e])) r) (λc hb=>hf c (by simp at hb;rcases hb with e|e|e|e<;>simp[e]))⟩
  rcases hx with h|h
  ·exact .inl (by simp;lia)
  ·exact .inr (by simp;lia)
 self:=λ_ _ _ _ _ st h=>wpAny_pyIter_zip st.1 h
section
variable{X:Cx}{a b:Expr}{t:TA}{p pos tpos:Pos}{ts:List Expr}{k:Nat}
def uY(K:EG)(t:TA):TI:=λσ H R=>t σ H λvs H1=>∃a,vs=[.ref a]/\(∃xs,SqL K H1 a xs)/\R (CG K a) H1
def DI(K:EG)(t:TA):TI:=λσ H R=>t σ H λvs H1=>∃a b,vs=[.ref a,.ref b]/\(∃xs,SqL K H1 a xs)/\(∃ys,SqL K H1 b ys)/\R (Itz K a b) H1
theorem kg {K:EG}(hg:Gl X "enumerate") (hm:X.mg "enumerate" = none) (ha:QA X [a] t) (hn:bS a=true:=by rfl) (hK:X.K=K:=by rfl):QI X (.Tuple ts k tpos) (.Call (.Name "enumerate" p) [a] [] pos) (uY K t):=by
 subst hK;refine⟨λpins s σ H R I h=>?_⟩;refine Call_ (eP I hg hm (by decide +kernel:bootBuiltins "enumerate" = some (.type "enumerate")) (FU (thn (ha.out pos pins s σ H _ I h) λus s1 ⟨vs,H1,I1,r1,q1⟩=>?_) (aU hn) rfl));obtain⟨l,e,⟨xs,hq⟩,q⟩:=q1;subst e;cases r1 with
 | cons r rr=>
  cases rr;cases r;obtain⟨its,rv,pl,hz⟩:=I1.list hq;refine call_enumerate_list pl.isList λg h1 h2 h3 h4=>wpAny_pyIter_enum h1 ?_
  have I2:Inv X pins σ H1 { s1 with heap:=g }:=I1.kept (t':=s1.toks) h4;refine⟨s1.heap.objs.size+1,[s1.heap.objs.size+1,s1.heap.objs.size],_,_,H1,rfl,I2,nQ l _ _ (Lg _),⟨⟨_,h1⟩,h2⟩,λc hc=>?_,q⟩;have hle:s1.heap.objs.size<=c:=by
   simp only[EO,Fl,or_false]at hc;rcases hc with rfl|rfl
   ·exact Hh _
   ·exact EI _
  exact I1.fpOk hle (I1.hok.fresh hle)
theorem z7 {K:EG}(hg:Gl X "zip") (hm:X.mg "zip" = none) (ha:QA X [a,b] t) (hn:bS a=true:=by rfl) (hn2:bS b=true:=by rfl) (hK:X.K=K:=by rfl):QI X (.Tuple ts k tpos) (.Call (.Name "zip" p) [a,b] [] pos) (DI K t):=by
 subst hK;refine⟨λpins s σ H R I h=>?_⟩;have e2:On [b] X.env=[(false,eval b X.env)]:=aU hn2;refine Call_ (eP I hg hm (by decide +kernel:bootBuiltins "zip" = some (.type "zip")) (FU (thn (ha.out pos pins s σ H _ I h) λus s1 ⟨vs,H1,I1,r1,q1⟩=>?_) (aU hn) (by rw[e2];rfl)));obtain⟨l,m,e,⟨xs,hq⟩,⟨ys,hq'⟩,q⟩:=q1;subst e;cases r1 with
 | cons r rr=>
  cases rr with
  | cons r' rr=>
   cases rr;cases r;cases r';obtain⟨its,rv,pl,hz⟩:=I1.list hq;obtain⟨jts,rw',pl',hz'⟩:=I1.list hq';have a1:l<s1.heap.objs.size:=by obtain⟨o,g,_⟩:=pl.isList;exact EV g
   have a2:m<s1.heap.objs.size:=by obtain⟨o,g,_⟩:=pl'.isList;exact EV g
   refine call_zip_2 pl.isList pl'.isList λg h1 h2 h3 h4 h5 h6 h7=>wpAny_pyIter_zip h1 ?_
   have I2:Inv X pins σ H1 { s1 with heap:=g }:=I1.kept (t':=s1.toks) h7;refine⟨_,_,_,_,H1,rfl,I2,tJ l m _ _ _ _ _ (zipApart_new a1 a2),⟨h1,h2,⟨_,_,h3⟩,h4,h5⟩,λc hc=>?_,q⟩;have hle:s1.heap.objs.size<=c:=by
    simp only[EO,Fl,or_false]at hc;rcases hc with rfl|rfl|rfl|rfl|rfl
    ·exact Ib _ _
    ·exact Ib _ _
    ·exact Ib _ _
    ·exact EI _
    ·exact Ib _ _
   exact I1.fpOk hle (I1.hok.fresh hle)
end
section
variable{K:EG}{σ:St}{H:Hp}{Q:VK}{D:Ends}{g:TG}{te:TE}{tb:TS}
theorem Bx{R:It->Hp->Prop}(h:t σ H λvs H1=>∃a,vs=[.ref a]/\(∃xs,SqL K H1 a xs)/\R (CG K a) H1):uY K t σ H R:=h
theorem DJ{R:It->Hp->Prop}(h:t σ H λvs H1=>∃a b,vs=[.ref a,.ref b]/\(∃xs,SqL K H1 a xs)/\(∃ys,SqL K H1 b ys)/\R (Itz K a b) H1):DI K t σ H R:=h
theorem pH{J:It}(Pv:Nat->St->Hp->Prop)(h0:Pv 0 σ H)(hgo:∀i σ H,i<n->Pv i σ H->J.go i H)(hst:∀σ H,Pv n σ H->J.stop n H)
  (hs:∀i x σ H H',i<n->Pv i σ H->J.yld i H x H'->g x σ H' λσ2 H2=>tb { D with nx:=Pv (i+1),ct:=Pv (i+1),bk:=D.nx } σ2 H2) (hd:∀σ H,Pv n σ H->D.nx σ H) :
  ∃W:Nat->Nat->St->Hp->Prop,(∃m,W 0 m σ H)/\∀i m σ H,W i m σ H->
   (J.stop i H/\D.nx σ H)\/(J.go i H/\∃N:St->Hp->Prop,(∀σ' H',N σ' H'->∃m',m'<m/\W (i+1) m' σ' H')/\∀x H',J.yld i H x H'->g x σ H' λσ2 H2=>tb { D with nx:=N,ct:=N,bk:=D.nx } σ2 H2):=by
 refine⟨λi m σ H=>m=n - i/\i<=n/\Pv i σ H,⟨n,by simp,EU _,h0⟩,?_⟩;rintro i m σ H ⟨rfl,hi,p⟩;by_cases hlt:i<n
 ·exact .inr ⟨hgo i σ H hlt p,Pv (i+1),λσ' H' p'=>⟨n - (i+1),by lia,rfl,hlt,p'⟩,λx H' y=>hs i x σ H H' hlt p y⟩
 ·have e:i=n:=by lia
  subst e;exact .inl ⟨hst σ H p,hd σ H p⟩
theorem jo{J:It}{σ0:St}{R:List V->Hp->Prop}(Pv:Nat->List V->St->Hp->Prop)(hz:n<sizeLine)(hl:∀i ys σ H,Pv i ys σ H->ys.length=i)(h0:Pv 0 [] σ0 H)(hgo:∀i ys σ H,i<n->Pv i ys σ H->J.go i H)(hst:∀ys σ H,Pv n ys σ H->J.stop n H)
  (hs:∀i x ys σ H H',i<n->Pv i ys σ H->J.yld i H x H'->g x σ H' λσ2 H2=>te σ2 H2 λy H3=>Nx n i (Pv (i+1) (ys++[y]) σ2 H3)) (hd:∀ys σ H,Pv n ys σ H->R ys H) :
  ∃W:Nat->Nat->List V->St->Hp->Prop,(∃m,W 0 m [] σ0 H)/\∀i m xs σc H,W i m xs σc H->xs.length<sizeLine/\
  ((J.stop i H/\R xs H)\/(J.go i H/\∀x H',J.yld i H x H'->g x σc H' λσ2 H2=>te σ2 H2 λy H3=>∃m',m'<m/\W (i+1) m' (xs++[y]) σ2 H3)):=by
 refine⟨λi m xs σ H=>m=n - i/\i<=n/\Pv i xs σ H,⟨n,by simp,EU _,h0⟩,?_⟩;rintro i m xs σ H ⟨rfl,hi,p⟩;refine⟨by rw[hl i xs σ H p];exact FC hi hz,?_⟩;by_cases hlt:i<n
 ·exact .inr ⟨hgo i xs σ H hlt p,λx H' y=>hs i x xs σ H H' hlt p y⟩
 ·have e:i=n:=by lia
  subst e;exact .inl ⟨hst xs σ H p,hd xs σ H p⟩
end
section
variable{K:EG}{σ:St}{H:Hp}{Q:VK}{D:Ends}
theorem DK(h:Q (.bl (decide (N9 x=N9 y))) H):rEq (.str x) (.str y) H Q:=⟨rfl,h⟩
theorem DL{R:Bool->Hp->Prop}(h:ta σ H λx H'=>∃k,uQ K x H' k/\R k H'):DF K ta σ H R:=h
theorem Ej{r:V->Option Int->Option Int->Hp->VK->Prop}{te:TE}{tl th:TO}(h:te σ H λx H1=>tl σ H1 λl H2=>th σ H2 λu H3=>r x l u H3 Q):tSl r te tl th σ H Q:=h
theorem CH{t:TE}{R:Option Int->Hp->Prop}(h:t σ H λx H1=>∃i,x=.int i/\R (some i) H1):wC t σ H R:=h
theorem pI{R:Option Int->Hp->Prop}(h:R none H):k7 σ H R:=h
theorem cu{x y:V}{R:St->Hp->Prop}(e:H p=some (.tup [x,y]))(h:R ((σ.set i (some x)).set j (some y)) H):Bm K 2 (kZ (dJ i) (kZ (dJ j) Bl)) (.ref p) σ H R:=
 ⟨p,_,rfl,N6 e,rfl,_,_,rfl,_,_,rfl,rfl,h⟩
theorem DM(h:SqL K H p xs):uQ K (.ref p) H (!xs.isEmpty):=.inl ⟨xs,h,rfl⟩
theorem Ek(h:SqT K H p xs):uQ K (.ref p) H (!xs.isEmpty):=.inr (.inl ⟨xs,h,rfl⟩)
theorem yH{α:Type}{G:Prop}{S B:α->Hp->Prop}(hA:(∀a H,S a H->B a H)->G)(hB:∀a H,S a H->B a H):G:=hA hB
theorem aX{α:Type}{f:α->V}{xs:List α}{x:V}(h:(xs.map f)[i]? = some x):∃z,x=f z/\xs[i]? = some z/\z∈xs/\i<xs.length:=by
 rw[EN]at h;cases e:xs[i]? with
 | none=>rw[e]at h;cases h
 | some z=>rw[e]at h;exact⟨z,(EY h).symm,rfl,ES e,(EM.mp e).1⟩
theorem Stp.own(a:Stp p H H1)(h:H l=none)(n:l≠p):Stp p H (upd H1 l o):=by
 obtain⟨x,y,z,e,q⟩:=a.tape;exact⟨λb u e1 e2=>by rw[ak (ao e1 h)];exact a.keep b u e1 e2,⟨x,y,z,by rw[ak (E7 n)];exact e,q⟩⟩
end
def RowsAt(H:Hp)(ps:List Addr)(b m:Nat)(zs:List Nat):Prop:=ps.length=zs.length/\∀(i:Nat) (p:Addr) (z:Nat),ps[i]? = some p->zs[i]? = some z->H p=some (.tup ((dg z b m).map N7))
theorem RowsAt.same{H:Hp}(h:RowsAt H ps b m zs)(e:Same H H1):RowsAt H1 ps b m zs:=⟨h.1,λi p z a c=>e _ _ (h.2 i p z a c)⟩
theorem RowsAt.snoc{H:Hp}{z:Nat}(h:RowsAt H ps b m zs)(e:H p=some (.tup ((dg z b m).map N7))):RowsAt H (ps++[p]) b m (zs++[z]):=by
 refine⟨by simp[h.1],λi q y a c=>?_⟩;rcases bR a with⟨l,a⟩|⟨l,a⟩
 ·rcases bR c with⟨_,c⟩|⟨l',c⟩
  ·exact h.2 i q y a c
  ·have:=h.1;lia
 ·rcases bR c with⟨l',c⟩|⟨_,c⟩
  ·have:=h.1;lia
  ·rw[a,c];exact e
def Spelt(ns:List Int)(b:Nat)(zs:List Nat)(m:Nat):Prop:=(ns=[]/\zs=[]/\m=0)\/∃lo hi:Int,lo∈ns/\hi∈ns/\(∀x∈ns,lo<=x/\x<=hi)/\zs=ns.map (λx=>(x - lo).toNat)/\(hi - lo).toNat<b ^ m/\(0<m->b ^ (m - 1)<=(hi - lo).toNat)/\m<201
theorem Spelt.len{ns:List Int}(h:Spelt ns b zs m):zs.length=ns.length:=by
 rcases h with⟨rfl,rfl,_⟩|⟨lo,hi,_,_,_,rfl,_⟩
 ·rfl
 ·simp
theorem Spelt.few{ns:List Int}(h:Spelt ns b zs m):m<201:=by
 rcases h with⟨rfl,rfl,rfl⟩|⟨lo,hi,_,_,_,rfl,_,_,h⟩
 ·decide
 ·exact h
theorem Spelt.at{ns:List Int}(h:Spelt ns b zs m)(hb:2<=b){x:Int}{z:Nat}(hx:ns[i]? = some x)(hz:zs[i]? = some z):z<b ^ m/\∀lo,lo∈ns->(∀y∈ns,lo<=y)->x - lo=z:=by
 rcases h with⟨rfl,rfl,rfl⟩|⟨lo,hi,h1,h2,h3,rfl,h4,h5,h6⟩
 ·simp at hx
 ·rw[EN,hx]at hz
  have ez:(x - lo).toNat=z:=EY hz;have hm:=h3 x (ES hx);refine⟨by lia,λlo' g1 g2=>?_⟩;have a1:=g2 lo h1;have a2:=(h3 lo' g1).1;lia
section
variable{X:Cx}{e:Expr}{te:TE}{g:TG}{pos tpos:Pos}{ts:List Expr}{k:Nat}
theorem ll(he:QE X e te)(hg:QG X (.Tuple ts k tpos) g)(hs:swapsWithSole [.Tuple ts k tpos] e pos.line X.env=pure false:=by rfl)(hw:swappedStores [.Tuple ts k tpos] e X.env=pure none:=by rfl)
  (h1:(Oy [.Tuple ts k tpos] X.env).map (·.2)=[assign (.Tuple ts k tpos) X.env]:=by rfl):QS X (.Assign [.Tuple ts k tpos] e pos) (ow te g):=⟨uM he.out hg.out hs hw h1⟩
end
section
variable{K:EG}{σ:St}{H:Hp}
end
theorem gg{i:Int}(e:i=j)(h:j<n):ixN n i=some j:=by
 subst e;unfold ixN;rw[if_pos ⋯,if_pos ⋯];simp
noncomputable def bL(tb:List (Int×Nat)):List Int:=tb.map λz=>z.1*((eX (tb.map (·.2)) / z.2:Nat):Int)
theorem bG(tb:List (Int×Nat)):(bL tb).length=tb.length:=by simp[bL]
theorem pJ{tb:List (Int×Nat)}(hb:∀z∈tb,1<=z.2/\z.2<=60)(ht:∀z∈tb,-(10 ^ 18)<z.1/\z.1<10 ^ 18):∀x∈bL tb,-(2 ^ 190)<x/\x<2 ^ 190:=by
 intro x hx;obtain⟨z,hz,rfl⟩:=E1.mp hx;have h1:=ht z hz;have hM:eX (tb.map (·.2))∣yG:=zY λb h=>by
  obtain⟨y,hy,rfl⟩:=E1.mp h;exact hb y hy
 have h2:eX (tb.map (·.2))<=yG:=IS (by decide +kernel) hM;have h3:yG<2 ^ 90:=by decide +kernel
 have h4:eX (tb.map (·.2)) / z.2<=eX (tb.map (·.2)):=Lz _ _;generalize eX (tb.map (·.2)) / z.2=c at h4;have h5:c<2 ^ 90:=by lia
 have h6:z.1.natAbs<2 ^ 60:=by lia
 have h7:(z.1*(c:Int)).natAbs<2 ^ 150:=by
  rw[LU,IJ]
  calc z.1.natAbs*c<2 ^ 60*2 ^ 90:=Nat.mul_lt_mul'' h6 h5
   _=2 ^ 150:=by decide
 lia
theorem pK:∀{xs:List V}{us:List Value},xs.length=us.length->(∀(i:Nat) x u,xs[i]? = some x->us[i]? = some u->RelV x u)->Vals xs us
 | [],[],_,_=>.nil
 | [],_::_,h,_=>by simp at h
 | _::_,[],h,_=>by simp at h
 | x::xs,u::us,h,r=>.cons (r 0 x u rfl rfl) (pK (by simpa using h) λi y v a b=>r (i+1) y v (by simpa using a) (by simpa using b))
section
variable{X:Cx}{a b e o:Expr}{es:List Expr}{t:TA}{te to tb:TE}{p p2 pos pos2 apos cpos tpos:Pos}
noncomputable def fQ(lo n:Nat):List V:=(EZ n).map λi=>N7 ((lo+i:Nat):Int)
inductive TyB (H:Hp):V->Value->Prop where
 | non:TyB H .non (.type "NoneType")
 | int (i:Int):TyB H (.int i) (.type "int")
 | lst {a:Addr}{xs:List V}(e:H a=some (.lst xs)):TyB H (.ref a) (.type "list")
 | tup {a:Addr}{xs:List V}(e:H a=some (.tup xs)):TyB H (.ref a) (.type "tuple")
def z8 (K:EG):RC:=λxs H Q=>∃x t tp b,xs=[x,.ref tp]/\H tp=some (.tup [.ty "list",.ty "tuple"])/\TyB H x t/\LV K t [.type "list",.type "tuple"]=some b/\Q (.bl b) H
theorem w9 {K:EG}(hK:X.K=K:=by rfl):QC X (.builtin "isinstance") (z8 K):=by
 subst hK;refine⟨λpins s σ H xs us Q I r h=>?_⟩;obtain⟨x,t,tp,b,rfl,htp,ty,e,q⟩:=h;cases r with
 | cons rx rr=>
  cases rr with
  | cons ry rr=>
   cases rr;cases ry;obtain⟨_,its,rv,⟨⟨c,dd,dt,sl⟩,g1,g2,n,g3⟩⟩:=(show ObjOk X.prog X.w H s.heap tp (.tup [.ty "list",.ty "tuple"])from I.hok tp _ htp);have g2':c=.type "tuple":=g2;have g3':dt=.seq its.toArray n:=g3;subst g2' g3';have ei:its=[.type "list",.type "tuple"]:=by
    cases rv with
    | cons r1 rr=>
     cases rr with
     | cons r2 rr=>
      cases rr;cases r1;cases r2;rfl
   subst ei;have fin:∀tk,EP X pins σ Q (.bool b) { s with toks:=tk }:=λtk=>⟨.bl b,H,I.tok _,rfl,q⟩
   cases ty with
   | non=>cases(show _=Ft from rx);exact F1 IX I.kIn EX g1 e (λz=>nomatch z) fin
   | int i=>obtain⟨tt,rfl⟩:=rx;exact F1 Jg I.kIn EX g1 e (λz=>nomatch z) fin
   | @lst a xs ea=>
    cases rx;obtain⟨_,_,n',_,h1⟩:=(show ObjOk X.prog X.w H s.heap a (.lst xs)from I.hok a _ ea);exact F1 HN I.kIn ⟨_,h1,rfl⟩ g1 e (λz=>nomatch z) fin
   | @tup a xs ea=>
    cases rx;obtain⟨_,_,_,⟨o',h1,h2,_⟩⟩:=(show ObjOk X.prog X.w H s.heap a (.tup xs)from I.hok a _ ea);exact F1 IF I.kIn ⟨_,h1,h2⟩ g1 e (λz=>nomatch z) fin
def DN:R2:=λx y H Q=>y=.non/\Q (.bl (decide (x=.non))) H
theorem lp:QOp X (Oo .Is) DN:=⟨zk⟩
end
section
variable{K:EG}{σ:St}{H:Hp}{Q:VK}
theorem tK {tp:Addr}(s:H p=some (.lst xs)) (e:H tp=some (.tup [.ty "list",.ty "tuple"])) (h:Q (.bl true) H):z8 K [.ref p,.ref tp] H Q:=⟨_,_,tp,_,rfl,e,.lst s,rfl,h⟩
theorem CI{x:V}(h:Q (.bl (decide (x=.non))) H):DN x .non H Q:=⟨rfl,h⟩
end
section
variable{H H1 H2:Hp}{p q l:Addr}{o:HO}
end
noncomputable def NV(os:List Nat):List V:=os.map λo:Nat=>N7 o
theorem bt(os:List Nat):(NV os).length=os.length:=by simp[NV]
theorem z9(os:List Nat):NV os=(os.map λo:Nat=>(o:Int)).map N7:=by rw[NV,Gd];rfl
theorem gh{os:List Nat}{o:Nat}(h:os[i]? = some o):(NV os)[i]? = some (N7 o):=by rw[NV,EN,h];rfl
theorem jq{os:List Nat}{o:Nat}{k:Int}(e:k=i)(h:os[i]? = some o):atI (NV os) k=some (N7 o):=by rw[e];exact bc (gh h)
theorem fR(os:List Nat)(o:Nat):NV os++[N7 o]=NV (os++[o]):=by simp[NV]
def LsAt(H:Hp)(ps:List Addr)(nss:List (List Nat)):Prop:=ps.length=nss.length/\∀(i:Nat) p ns,ps[i]? = some p->nss[i]? = some ns->H p=some (.lst (NV ns))
section
variable{H H1:Hp}{ps:List Addr}{nss:List (List Nat)}
theorem LsAt.same(h:LsAt H ps nss)(e:Same H H1):LsAt H1 ps nss:=⟨h.1,λi p z a c=>e _ _ (h.2 i p z a c)⟩
theorem LsAt.upd{x:Addr}{o:HO}(h:LsAt H ps nss)(n:∀p∈ps,p≠x):LsAt (L2.upd H x o) ps nss:=⟨h.1,λi p z a c=>by rw[ak (n p (ES a))];exact h.2 i p z a c⟩
theorem LsAt.snoc{ns:List Nat}(h:LsAt H ps nss)(e:H p=some (.lst (NV ns))):LsAt H (ps++[p]) (nss++[ns]):=by
 refine⟨by simp[h.1],λi q y a c=>?_⟩;rcases bR a with⟨l,a⟩|⟨l,a⟩
 ·rcases bR c with⟨_,c⟩|⟨l',c⟩
  ·exact h.2 i q y a c
  ·have:=h.1;lia
 ·rcases bR c with⟨l',c⟩|⟨_,c⟩
  ·have:=h.1;lia
  ·rw[a,c];exact e
theorem LsAt.nil:LsAt H [] []:=⟨rfl,λi p ns h=>by simp at h⟩
theorem LsAt.some(h:LsAt H ps nss)(hp:p∈ps):∃ns,ns∈nss/\H p=M0 (.lst (NV ns)):=by
 obtain⟨i,hi,rfl⟩:=GJ.mp hp;have hi2:i<nss.length:=by rw[<-h.1];exact hi
 exact⟨nss[i],Fh hi2,h.2 i ps[i] nss[i] (by simp[hi]) (by simp[hi2])⟩
end
noncomputable def cg(os:List Nat):Nat->List Bool->Nat->List Nat×List Bool
 | 0,met,_=>([],met)
 | f+1,met,pl=>if met.getD pl true=true then([],met)else(pl::(cg os f (met.set pl true) (os.getD pl 0)).1,(cg os f (met.set pl true) (os.getD pl 0)).2)
noncomputable def few(met:List Bool):Nat:=met.count false
theorem pL{met:List Bool}(h:met[pl]? = some false):few (met.set pl true)+1=few met:=by
 unfold few;have hl:=(EM.mp h).1;have he:=(EM.mp h).2;rw[List.count_set (by simpa using hl),he];have:0<met.count false:=List.count_pos_iff.mpr (he▸Fh hl);simp;lia
noncomputable def xb(os:List Nat)(st:List (List Nat)×List Bool)(i:Nat):List (List Nat)×List Bool:=
 let w:=cg os (os.length+1) st.2 i
 (if 1<w.1.length then st.1++[w.1]else st.1,w.2)
noncomputable def cA(os:List Nat)(i:Nat):List (List Nat)×List Bool:=(EZ i).foldl (xb os) ([],E2 os.length false)
noncomputable def aB(os:List Nat):List (List Nat):=(cA os os.length).1
theorem cJ(os:List Nat)(i:Nat):cA os (i+1)=xb os (cA os i) i:=by
 unfold cA;rw[Il,KU];rfl
theorem gT{os:List Nat}{f:Nat}{met:List Bool}(h:met[pl]? = some true)(hf:0<f):cg os f met pl=([],met):=by
 cases f with
 | zero=>lia
 | succ f=>
  unfold cg;rw[EH,h];rfl
theorem gU{os:List Nat}{f:Nat}{met:List Bool}{o:Nat}(h:met[pl]? = some false)(ho:os[pl]? = some o):cg os (f+1) met pl=(pl::(cg os f (met.set pl true) o).1,(cg os f (met.set pl true) o).2):=by
 conv=>lhs;unfold cg
 rw[EH,h,EH,ho];rfl
theorem gw{os:List Nat}:∀(f:Nat) (met:List Bool) (pl:Nat),(cg os f met pl).2.length=met.length/\(cg os f met pl).1.length<=f
 | 0,met,pl=>⟨rfl,EI _⟩
 | f+1,met,pl=>by
  unfold cg;split
  ·exact⟨rfl,EU _⟩
  ·have:=gw (os:=os) f (met.set pl true) (os.getD pl 0)
   exact⟨by simpa using this.1,by simpa using this.2⟩
theorem uZ(met:List Bool):few met<=met.length:=List.count_le_length
theorem eJ(os:List Nat):∀i,(cA os i).2.length=os.length
 | 0=>by simp[cA]
 | i+1=>by
  rw[cJ];show(cg os (os.length+1) (cA os i).2 i).2.length=_
  rw[(gw _ _ _).1,eJ os i]
theorem c7(os:List Nat):∀i,(cA os i).1.length<=i/\∀r∈(cA os i).1,r.length<=os.length+1
 | 0=>by simp[cA]
 | i+1=>by
  obtain⟨h1,h2⟩:=c7 os i;rw[cJ];have hl:=(gw (os:=os) (os.length+1) (cA os i).2 i).2;show(if 1<(cg os (os.length+1) (cA os i).2 i).1.length then(cA os i).1++[(cg os (os.length+1) (cA os i).2 i).1]else(cA os i).1).length<=_/\∀r∈(if 1<(cg os (os.length+1) (cA os i).2 i).1.length then(cA os i).1++[(cg os (os.length+1) (cA os i).2 i).1]else(cA os i).1),_
  split
  ·refine⟨by simp;lia,λr hr=>?_⟩
   rcases Fq.mp hr with h|h
   ·exact h2 r h
   ·rw[Fu.mp h];exact hl
  ·exact⟨by lia,h2⟩
theorem pM{xs:List Nat}(hn:xs.Nodup)(hi:i<xs.length)(hj:j<xs.length)(e:xs[i]=xs[j]):i=j:=by
 rcases G3 i j with h|h|h
 ·exact absurd e (FQ.mp hn i j hi hj h)
 ·exact h
 ·exact absurd e.symm (FQ.mp hn j i hj hi h)
theorem Aa(os:List Nat)(i o:Nat):(NV os).set i (N7 o)=NV (os.set i o):=by simp[NV,Kr]
section
variable{X:Cx}{e:Expr}{te:TE}{pos p1 p2 p3 p4 p5:Pos}{j j':Nat}
end
structure Ord (os:List Nat) (n:Nat):Prop where
 len:os.length=n
 lt:∀x∈os,x<n
 inj:∀(i j r:Nat),os[i]? = some r->os[j]? = some r->i=j
 sur:∀x,x<n->∃i,i<n/\os[i]? = some x
theorem Ord.of_perm{os:List Nat}(h:os.Perm (EZ n)):Ord os n:=by
 have hl:os.length=n:=by have:=h.length_eq;rw[Fz]at this;exact this
 refine⟨hl,λx hx=>FE.mp (h.mem_iff.mp hx),λi j r a b=>?_,λx hx=>?_⟩
 ·obtain⟨a1,a2⟩:=EM.mp a
  obtain⟨b1,b2⟩:=EM.mp b;exact pM (h.nodup_iff.mpr Lh) a1 b1 (by rw[a2,b2])
 ·obtain⟨i,hi⟩:=Gm (h.mem_iff.mpr (FE.mpr hx))
  exact⟨i,by have:=(EM.mp hi).1;lia,hi⟩
theorem Ord.get{os:List Nat}(h:Ord os n)(hi:i<n):∃r,os[i]? = some r/\r<n:=by
 have hl:i<os.length:=by rw[h.len];exact hi
 exact⟨os[i],by simp[hl],h.lt _ (Fh hl)⟩
noncomputable def cmp(one other:List Nat):List Nat:=other.map λj=>one.getD j 0
theorem cE{α:Type}{xs:List α}{x:α}(h:xs[i]? = some x):i<xs.length:=(EM.mp h).1
theorem xf{xs ys:List Nat}(h1:xs.length=n)(h2:ys.length=n)(h:∀i,i<n->∃r,xs[i]? = some r/\ys[i]? = some r):xs=ys:=by
 apply List.ext_getElem?;intro i;by_cases hi:i<n
 ·obtain⟨r,a,b⟩:=h i hi
  rw[a,b]
 ·rw[Ie ⋯,Ie ⋯]
structure Back (os bs:List Nat) (n:Nat):Prop where
 len:bs.length=n
 at_:∀(i r:Nat),os[i]? = some r->bs[r]? = some i
theorem Back.ord{os bs:List Nat}(h:Ord os n)(b:Back os bs n):Ord bs n:=by
 have key:∀{x i:Nat},bs[x]? = some i->os[i]? = some x:=λ{x i} e=>by
  have hx:x<n:=by have:=cE e;rw[b.len]at this;exact this
  obtain⟨j,hj,a⟩:=h.sur x hx;have:=b.at_ j x a;rw[e]at this;rw[EY this];exact a
 refine⟨b.len,λx hx=>?_,λi j r a c=>?_,λx hx=>?_⟩
 ·obtain⟨i,hi⟩:=Gm hx
  have:=cE (key hi);rw[h.len]at this;exact this
 ·have e1:=key a
  have e2:=key c;rw[e1]at e2;exact EY e2
 ·obtain⟨r,a,l⟩:=h.get hx
  exact⟨r,l,b.at_ x r a⟩
section
variable{X:Cx}{N tgs frs:List Str}{ix:List Nat}{scope:Scope}{cl:List (Str×Addr)}
def pN(wi:TI)(g:TG)(tc:TT)(te:TE)(tgs:List Str)(ix:List Nat):TE:=λσ H Q=>wi σ H λJ H1=>
 ∃W:Nat->Nat->List V->St->Hp->Prop,(∃m,W 0 m [] (dO tgs ix σ) H1)/\∀i m xs σc H,W i m xs σc H->xs.length<sizeLine/\
  ((J.stop i H/\∀p,H p=none->Q (.ref p) (upd H p (.lst xs)))\/(J.go i H/\∀x H',J.yld i H x H'->g x σc H' λσ2 H2=>tc σ2 H2 λb H3=>if b=true then te σ2 H3 λy H4=>∃m',m'<m/\W (i+1) m' (xs++[y]) σ2 H4 else ∃m',m'<m/\W (i+1) m' xs σ2 H3))
end
section
variable{X:Cx}{e o b:Expr}{to tb te:TE}{t:TA}{pos apos cpos tpos:Pos}
theorem pO {K:EG}(ho:QE X o to) (ha:QA X [e] t) (hbase:Oq o ("extend" : Str) X.env (eval o X.env)=eval o X.env:=by rfl) (hline:(apos.endLine == cpos.line)=true:=by rfl) (hn:bS e=true:=by rfl) (hK:X.K=K:=by rfl) :
  QE X (.Call (.Attribute o "extend" apos) [e] [] cpos) (tBM K "list" lh to t):=by subst hK;exact⟨fw GS Jm Jn o8 ho.out ha.out hbase hline hn⟩
end
section
variable{X:Cx}{N tgs frs:List Str}{ix:List Nat}{scope:Scope}{cl:List (Str×Addr)}{xc:Str}
end
section
variable{X:Cx}{e o b:Expr}{to tb te:TE}{pos tpos:Pos}
def Ab(K:EG):R2:=λx y H Q=>∃a b xs,x=.ref a/\y=.ref b/\SqL K H a xs/\SqL K H b []/\Q (.bl (!decide (xs=[]))) H
theorem lq{K:EG}(hu:X.A.units<cLine)(hK:X.K=K:=by rfl):QOp X (Oo .NotEq) (Ab K):=by
 subst hK;refine⟨λpins s σ H x y v u Q I rx ry h=>?_⟩;obtain⟨a,b,xs,rfl,rfl,ha,hb,q⟩:=h;cases rx;cases ry;obtain⟨its,r1,p1,z1⟩:=I.list ha;obtain⟨its2,r2,p2,z2⟩:=I.list hb;have l1:its.toArray.size=xs.length:=by have:=r1.length;simp;lia
 have l2:its2.toArray.size=0:=by have:=r2.length;simp at this;simp[this]
 by_cases hx:xs=[]
 ·subst hx
  refine NI (e:=λ_=>true) p1.isList p2.isList (by rw[l1,l2];rfl) hu (λj h1 h2=>absurd h2 ⋯) X.prog X.w X.xe _ ?_;rw[l1];exact⟨.bl false,H,I,rfl,q⟩
 ·refine Mg p1.isList p2.isList (by rw[l1,l2];have:=FR.mpr hx;simp;exact hx) hu X.prog X.w X.xe _ ?_
  rw[decide_eq_false hx]at q;exact⟨.bl true,H,I,rfl,q⟩
end
section
variable{K:EG}{σ:St}{H:Hp}{Q:VK}{D:Ends}
theorem By {te:TE}{tgs:List Str}(h:wi σ H λJ H1=>
 ∃W:Nat->Nat->List V->St->Hp->Prop,(∃m,W 0 m [] (dO tgs ix σ) H1)/\∀i m xs σc H,W i m xs σc H->xs.length<sizeLine/\
  ((J.stop i H/\∀p,H p=none->Q (.ref p) (upd H p (.lst xs)))\/(J.go i H/\∀x H',J.yld i H x H'->g x σc H' λσ2 H2=>tc σ2 H2 λb H3=>if b=true then te σ2 H3 λy H4=>∃m',m'<m/\W (i+1) m' (xs++[y]) σ2 H4 else ∃m',m'<m/\W (i+1) m' xs σ2 H3))):pN wi g tc te tgs ix σ H Q:=h
end
theorem Ac(m:Nat):Gq ((m:Int) - 1) (-1) (-1)=m:=by
 unfold Gq;rw[if_neg (by decide)];split
 ·rw[show(-(-1):Int)=1 by decide,Int.ediv_one];lia
 ·lia
theorem Ae(h:m<=1000):IA ((m:Int) - 1) (-1) (-1)=true:=by
 unfold IA;rw[Ac];simp only[L9,FW,Bool.or_eq_true,decide_eq_true_eq,beq_iff_eq,show ¬((-1:Int) > 0)by decide,if_false];refine⟨?_,?_⟩<;>first|lia|(refine⟨?_,?_⟩<;>first|lia|(split<;>lia))|(split<;>lia)|trace_state
def Itd(m:Nat):It:=⟨λi _=>i<m,λi H x H'=>H'=H/\x=.int ((m - 1 - i:Nat):Int),λi _=>m<=i⟩
theorem lx{w:World}{K:EG}(it:Addr)(m:Nat):Turn P w K tg (Itd m) [it] it (λi h=>IsRangeIter h it (((m:Int) - 1)+(i:Nat)*(-1)) ((m:Int) - (i:Nat)) (-1)) where
 mem:=by simp
 obj:=λi h st b hb=>by
  have e:b=it:=by simpa using hb
  subst e;exact⟨_,st,λv z=>by
   have z':MT _=ND v:=z;cases z'⟩
 keep:=λi h h' st k=>k it (by simp) _ st
 item:=by
  intro X hP hw hK hc i pins s σ H E I hf st hg;subst hP hw hK;obtain⟨f0,f1,f2,f3,f4,f5⟩:=hf it (by simp);have hi:i<m:=hg;have W:=MU (prog:=X.prog) (w:=X.w) (I.ok.hd hc) it ((m:Int) - 1) (-1) m;refine W.item i s _ _ hg st λv h' tk hv st' kk=>?_
  obtain⟨t,rfl⟩:=hv;have I1:Inv X pins σ H { s with heap:=h',toks:=tk }:=I.turned (λb o hb e=>kk b o (by simpa using hb) e) f0 f1 f3 f4 f5;refine⟨_,rfl,oA (s:={ s with heap:=h',toks:=tk }) (n:="range_iterator") st' rfl rfl (by decide) ⟨.int ((m - 1 - i:Nat):Int),H,I1,⟨t,?_⟩,⟨rfl,rfl⟩,st',λb hb=>(hf b hb).1⟩⟩;congr 1;lia
 done:=by
  intro X hP hw hK hc i pins s σ H E I hf st hg;subst hP hw hK;obtain⟨f0,f1,f2,f3,f4,f5⟩:=hf it (by simp);exact wpAny_pyNext_range_end (I.ok.hd hc) st (by have:m<=i:=hg;lia) λh' eb=>⟨rfl,I.turned (t':=s.toks) (λb o hb e=>eb b o hb e) f0 f1 f3 f4 f5⟩
 self:=λ_ _ _ _ _ st h=>wpAny_pyIter_rangeiter st h
section
variable{X:Cx}{tg a b c:Expr}{t:TA}{p pos:Pos}
def Af(t:TA):TI:=λσ H R=>t σ H λvs H1=>∃m:Nat,vs=[.int ((m:Int) - 1),.int (-1),.int (-1)]/\m<=1000/\R (Itd m) H1
theorem pP (hg:Gl X "range") (hm:X.mg "range" = none) (ha:QA X [a,b,c] t) (hn:bS a=true:=by rfl) (hn2:bS b=true:=by rfl) (hn3:bS c=true:=by rfl):QI X tg (.Call (.Name "range" p) [a,b,c] [] pos) (Af t):=by
 refine⟨λpins s σ H R I h=>?_⟩;have e3:On [c] X.env=[(false,eval c X.env)]:=aU hn3;have e2:On [b,c] X.env=[(false,eval b X.env),(false,eval c X.env)]:=by rw[aU hn2,e3]
 refine Call_ (eP I hg hm boot_range (FU (thn (ha.out pos pins s σ H _ I h) λus s1 ⟨vs,H1,I1,r1,q1⟩=>?_) (aU hn) (by rw[e2];rfl)));obtain⟨m,e,hm1,q⟩:=q1;subst e;cases r1 with
 | cons r rr=>
  cases rr with
  | cons r' rr=>
   cases rr with
   | cons r'' rr=>
    cases rr;obtain⟨t1,rfl⟩:=r;obtain⟨t2,rfl⟩:=r';obtain⟨t3,rfl⟩:=r'';refine call_range_3 (by decide) ?_ (.inl (Jk (by decide +kernel)));refine wpAny_pyIter_range (MW ..) (Ae hm1) ?_;have I2:Inv X pins σ H1 { s1 with heap:=s1.heap.push { cls:=.type "range",data:=.fields #[.int ((m:Int) - 1) t1,.int (-1) t2,.int (-1) t3] },toks:=s1.toks }:=I1.kept λb o e=>EJ _ e
    refine⟨_,[(s1.heap.push { cls:=.type "range",data:=.fields #[.int ((m:Int) - 1) t1,.int (-1) t2,.int (-1) t3] }).objs.size],_,_,H1,rfl,I2.kept (t':=s1.toks) λb o e=>EJ _ e,lx _ m,?_,λb hb=>?_,q⟩
    ·show IsRangeIter _ _ (((m:Int) - 1)+((0:Nat):Int)*(-1)) ((m:Int) - ((0:Nat):Int)) (-1)
     have g1:((m:Int) - 1)+((0:Nat):Int)*(-1)=(m:Int) - 1:=by simp
     have g2:(m:Int) - ((0:Nat):Int)=Gq ((m:Int) - 1) (-1) (-1):=by rw[Ac];simp
     rw[g1,g2];exact E5 _ rfl
    ·have e:b=(s1.heap.push { cls:=.type "range",data:=.fields #[.int ((m:Int) - 1) t1,.int (-1) t2,.int (-1) t3] }).objs.size:=by simpa using hb
     subst e;exact I2.fpOk (EI _) (I2.hok.fresh (EI _))
end
theorem CJ{H:Hp}{R:It->Hp->Prop}(h:t σ H λvs H1=>∃m:Nat,vs=[.int ((m:Int) - 1),.int (-1),.int (-1)]/\m<=1000/\R (Itd m) H1):Af t σ H R:=h
section
variable{prog:Program}{w:World}{A:Around}{E:Value->Shared->Prop}{s:Shared}
end
section
variable{X:Cx}{a b:Expr}{t:TA}{p pos tpos:Pos}{ts:List Expr}{k:Nat}
end
section
variable{X:Cx}{N tgs frs:List Str}{ix:List Nat}{scope:Scope}{cl:List (Str×Addr)}
theorem xg{te:TE}(hN:X.N.Nodup)(hy:X.N[iy]? = some y)(hx:Loc X.env.scope y)(c:CompOk X N tgs frs ix scope cl)(hc:X.calm=true)(hi:PI X tg iter wi)
  (hg:∀fp C s H,PG (ay X N scope cl fp C s H) tg g) (he:∀fp C s H,PE (ay X N scope cl fp C s H) elt te)
  (hcd:∀fp C s H,PT (ay X N scope cl fp C s H) cnd tc)
  (hs:∀x,Ol iter X.env x=pure x:=by intro _;rfl)
  (hsw:OC (.ListComp elt [⟨tg,iter,[cnd],0⟩] scope pos) (some (.Name y py)) spos.line X.env=pure true:=by rfl)
  (hf:X.fn y=true\/X.env.scope.names.lookup y=some .local:=by first|exact .inl rfl|exact .inr rfl|assumption) :
  PS X (.Assign [.Name y py] (.ListComp elt [⟨tg,iter,[cnd],0⟩] scope pos) spos) (ow (pN wi g tc te tgs ix) (dJ iy)):=pf (oc:=some cnd) (tb:=tbF tc te) hN hy hx c hc hi hg (λfp C s H=>.ts (hcd fp C s H) (he fp C s H)) hs hsw hf
theorem xh{te:TE}(hN:X.N.Nodup)(hy:X.N[i]? = some y)(hx:Loc X.env.scope y)(c:CompOk X N tgs frs ix scope cl)(hc:X.calm=true)(hi:QI X tg iter wi)
  (hg:∀fp C s H,QG (ay X N scope cl fp C s H) tg g) (he:∀fp C s H,QE (ay X N scope cl fp C s H) elt te) (hcd:∀fp C s H,QT (ay X N scope cl fp C s H) cnd tc)
  (hs:∀x,Ol iter X.env x=pure x:=by intro _;rfl)
  (hsw:OC (.ListComp elt [⟨tg,iter,[cnd],0⟩] scope pos) (some (.Name y py)) spos.line X.env=pure true:=by rfl)
  (hf:X.fn y=true\/X.env.scope.names.lookup y=some .local:=by first|exact .inl rfl|exact .inr rfl|assumption) :
  QS X (.Assign [.Name y py] (.ListComp elt [⟨tg,iter,[cnd],0⟩] scope pos) spos) (ow (pN wi g tc te tgs ix) (dJ i)):=
 ⟨xg hN hy hx c hc hi.out (λfp C s H=>(hg fp C s H).out) (λfp C s H=>(he fp C s H).out) (λfp C s H=>(hcd fp C s H).out) hs hsw hf⟩
end
section
variable{X:Cx}{N tgs frs:List Str}{ix:List Nat}{scope:Scope}{cl:List (Str×Addr)}{xc:Str}
end
section
variable{X:Cx}{e o:Expr}{to te:TE}{t:TA}{pos apos cpos:Pos}
end
section
variable{K:EG}{σ:St}{H:Hp}{Q:VK}{g:TG}{tc:TT}{te:TE}
theorem pQ{J:It}{σ0:St}{R:List V->Hp->Prop}(Pv:Nat->List V->St->Hp->Prop)(hz:n<sizeLine)(hl:∀i ys σ H,Pv i ys σ H->ys.length<=i)(h0:Pv 0 [] σ0 H)(hgo:∀i ys σ H,i<n->Pv i ys σ H->J.go i H)(hst:∀ys σ H,Pv n ys σ H->J.stop n H)
  (hs:∀i x ys σ H H',i<n->Pv i ys σ H->J.yld i H x H'->g x σ H' λσ2 H2=>tc σ2 H2 λb H3=>if b=true then te σ2 H3 λy H4=>Nx n i (Pv (i+1) (ys++[y]) σ2 H4)else Nx n i (Pv (i+1) ys σ2 H3)) (hd:∀ys σ H,Pv n ys σ H->R ys H) :
  ∃W:Nat->Nat->List V->St->Hp->Prop,(∃m,W 0 m [] σ0 H)/\∀i m xs σc H,W i m xs σc H->xs.length<sizeLine/\
  ((J.stop i H/\R xs H)\/(J.go i H/\∀x H',J.yld i H x H'->g x σc H' λσ2 H2=>tc σ2 H2 λb H3=>if b=true then te σ2 H3 λy H4=>∃m',m'<m/\W (i+1) m' (xs++[y]) σ2 H4 else ∃m',m'<m/\W (i+1) m' xs σ2 H3)):=by
 refine⟨λi m xs σ H=>m=n - i/\i<=n/\Pv i xs σ H,⟨n,by simp,EU _,h0⟩,?_⟩;rintro i m xs σ H ⟨rfl,hi,p⟩;refine⟨FC (FB (hl i xs σ H p) hi) hz,?_⟩;by_cases hlt:i<n
 ·exact .inr ⟨hgo i xs σ H hlt p,λx H' y=>hs i x xs σ H H' hlt p y⟩
 ·have e:i=n:=by lia
  subst e;exact .inl ⟨hst xs σ H p,hd xs σ H p⟩
end
section
variable{X:Cx}
end
theorem kh{xs ys:List Nat}(h:xs.Nodup)(hs:∀x∈xs,x∈ys)(hl:ys.length<=xs.length):xs.Perm ys:=by
 induction xs generalizing ys with
 | nil=>cases ys with
  | nil=>exact JN _
  | cons y r=>simp at hl
 | cons x xs ih=>
  have hx:x∈ys:=hs x (Fn ..);have hp:=List.perm_cons_erase hx;refine NW (NY x (ih (GF.mp h).2 (λz hz=>?_) ?_)) hp.symm
  ·have:z≠x:=λe=>(GF.mp h).1 (e▸hz)
   exact(List.mem_erase_of_ne this).mpr (hs z (E4 _ hz))
  ·rw[List.length_erase_of_mem hx];simp at hl;lia
end L2
open L2.Nx renaming mk→Oe
open L2.QW renaming qt→Od
open L2.Same renaming refl→Oc
namespace HT
open PySem PyProof.Rows
section
open PySem.SeqAt
open PySem.AutoSeq1 (wpAny_loadPart')
open PySem.MeetsSeq PySem.MeetsSeq2 PySem.MeetsSeq3
end
section
variable{prog:Program}{w:World}{A:Around}{E:Value->Shared->Prop}{s:Shared}
end
end HT
namespace L2
open PySem PySem.Spec PyProof.Rows
section
variable{X:Cx}{e e2 o:Expr}{to te:TE}{t:TA}{pos apos cpos:Pos}
end
theorem gW{P:PyData->Bool}{PA:List PyData->Bool}(h0:PA []=true)(h1:∀x xs,PA (x::xs)=(P x && PA xs)):∀{ds:List PyData},(∀d∈ds,P d=true)->PA ds=true
 | [],_=>h0
 | d::ds,h=>by rw[h1,h d (Fn ..),gW h0 h1 λx hx=>h x (E4 _ hx)];rfl
theorem cK{n:Nat}:∀{ds:List PyData},(∀d∈ds,d.depth<=n)->LA ds<=n
 | [],_=>EU _
 | d::ds,h=>by
  show max d.depth (LA ds)<=n
  have h1:=h d (Fn ..);have h2:=cK (ds:=ds) λx hx=>h x (E4 _ hx)
  lia
theorem dA:∀{ds:List PyData},(∀d∈ds,d.hasDict=false)->KW ds=false
 | [],_=>rfl
 | d::ds,h=>by
  show(d.hasDict || KW ds)=false
  rw[h d (Fn ..),dA λx hx=>h x (E4 _ hx)];rfl
section
variable{X:Cx}{pins:List (Addr×Obj)}{σ:St}{H:Hp}{s:Shared}
theorem cL{R:V->PyData->Prop}{h:Heap}(hR:∀x v d,R x d->RelV x v->∃as,Reads h v d as):∀{xs:List V}{its:List Value}{ds:List PyData},Vals xs its->xs.length=ds.length->(∀(i:Nat) u e,xs[i]? = some u->ds[i]? = some e->R u e)->∃as,ReadsAll h its ds as
 | _,_,[],.nil,_,_=>⟨[],.nil⟩
 | _,_,d::ds,.cons r rr,hl,hi=>by
  obtain⟨as,h1⟩:=hR _ _ d (hi 0 _ d rfl rfl) r;obtain⟨bs,h2⟩:=cL hR rr (by simpa using hl) λi u e e1 e2=>hi (i+1) u e e1 e2
  exact⟨as++bs,.cons h1 h2⟩
 | _,_,_::_,.nil,hl,_=>by simp at hl
 | _,_,[],.cons _ _,hl,_=>by simp at hl
end
section
variable{K:EG}{σ:St}{H:Hp}{Q:VK}
end
noncomputable def c9(a:List Nat):List Int:=a.map λx:Nat=>(x:Int)
noncomputable def lxt(a b:List Nat):Bool:=HT.bH (c9 a) (c9 b)
theorem gx(x y:Nat)(a b:List Nat):lxt (x::a) (y::b)=if x=y then lxt a b else decide (x<y):=by
 unfold lxt c9;rw[Fw,Fw,HT.aW];by_cases h:x=y
 ·rw[if_pos h,if_pos (by rw[h])]
 ·rw[if_neg h,if_neg ⋯]
  exact decide_eq_decide.mpr ⋯
theorem fT(a:List Nat):lxt a a=false:=by
 induction a with
 | nil=>rfl
 | cons x a ih=>rw[gx,if_pos rfl,ih]
theorem pR{a b c:List Nat}(h1:lxt a b=true)(h2:lxt b c=true):lxt a c=true:=by
 induction a generalizing b c with
 | nil=>
  cases b with
  | nil=>cases h1
  | cons y b=>cases c with
   | nil=>cases h2
   | cons z c=>rfl
 | cons x a ih=>
  cases b with
  | nil=>cases h1
  | cons y b=>
   cases c with
   | nil=>cases h2
   | cons z c=>
    rw[gx]at h1 h2 ⊢;by_cases e1:x=y
    ·subst e1
     rw[if_pos rfl]at h1;by_cases e2:x=z
     ·rw[if_pos e2]at h2 ⊢;exact ih h1 h2
     ·rw[if_neg e2]at h2 ⊢;exact h2
    ·rw[if_neg e1]at h1
     have h1:=of_decide_eq_true h1;by_cases e2:y=z
     ·subst e2;rw[if_neg e1];exact decide_eq_true h1
     ·rw[if_neg e2]at h2
      have h2:=of_decide_eq_true h2;rw[if_neg ⋯];exact decide_eq_true ⋯
theorem xi(a b:List Nat):lxt a b=true\/a=b\/lxt b a=true:=by
 induction a generalizing b with
 | nil=>cases b with
  | nil=>exact .inr (.inl rfl)
  | cons y b=>exact .inl rfl
 | cons x a ih=>
  cases b with
  | nil=>exact .inr (.inr rfl)
  | cons y b=>
   rw[gx,gx];by_cases e:x=y
   ·subst e
    rw[if_pos rfl,if_pos rfl];rcases ih b with h|h|h
    ·exact .inl h
    ·exact .inr (.inl (by rw[h]))
    ·exact .inr (.inr h)
   ·rw[if_neg e,if_neg (E7 e)]
    rcases Nat.lt_or_gt_of_ne e with h|h
    ·exact .inl (decide_eq_true h)
    ·exact .inr (.inr (decide_eq_true h))
theorem pS{a b:List Nat}(h1:lxt a b=true)(h2:lxt b a=true):False:=by
 have:=pR h1 h2;rw[fT]at this;cases this
def Rk(rss:List (List Nat))(c i j:Nat):Prop:=lxt ((rss.getD i []).drop c) ((rss.getD j []).drop c)=true\/((rss.getD i []).drop c=(rss.getD j []).drop c/\i<j)
theorem iZ{α:Type}{R:α->α->Prop}(ha:∀a b,R a b->R b a->False):∀{xs ys:List α},xs.Perm ys->xs.Pairwise R->ys.Pairwise R->xs=ys
 | [],ys,hp,_,_=>by have:=hp.length_eq;exact(Jr.mp this.symm).symm
 | x::xs,[],hp,_,_=>by have:=hp.length_eq;simp at this
 | x::xs,y::ys,hp,h1,h2=>by
  have e:x=y:=by
   rcases EO.mp (hp.mem_iff.mp (Fn ..))with h|h
   ·exact h
   ·rcases EO.mp (hp.mem_iff.mpr (Fn ..))with g|g
    ·exact g.symm
    ·exact(ha x y ((Hn.mp h1).1 y g) ((Hn.mp h2).1 x h)).elim
  subst e;rw[iZ ha (List.perm_cons x |>.mp hp) (Hn.mp h1).2 (Hn.mp h2).2]
section
variable{X:Cx}{o a b e:Expr}{to ta tb te:TE}{pos p2 tpos:Pos}
end
section
variable{K:EG}{σ:St}{H:Hp}{Q:VK}{D:Ends}
theorem mE{x y z:V}{R:St->Hp->Prop}(e:H p=some (.tup [x,y,z]))(h:R (((σ.set i (some x)).set j (some y)).set k (some z)) H):Bm K 3 (kZ (dJ i) (kZ (dJ j) (kZ (dJ k) Bl))) (.ref p) σ H R:=
 ⟨p,_,rfl,N6 e,rfl,_,_,rfl,_,_,rfl,_,_,rfl,rfl,h⟩
theorem pT{c:Addr}(h1:H l=some (.lst xs))(h2:H c=some (.lst ys))(hz:xs.length+ys.length<=sizeLine)(h:Q .non (upd H l (.lst (xs++ys)))):lh (.ref l) [.ref c] H Q:=⟨l,c,xs,ys,rfl,rfl,h1,h2,hz,h⟩
end
def Sc(v:V):Prop:=v=.non\/(∃b,v=.bl b)\/(∃i,v=.int i)\/∃x,v=.str x
def Th(H:Hp)(v:V):Prop:=Sc v\/∃t xs,v=.ref t/\H t=some (.tup xs)/\0<xs.length/\xs.length<=2/\∀x∈xs,Sc x
def ThE(H:Hp)(x y:V):Prop:=(Sc x/\y=x)\/∃t u xs,x=.ref t/\y=.ref u/\H t=some (.tup xs)/\H u=some (.tup xs)/\0<xs.length/\xs.length<=2/\∀z∈xs,Sc z
theorem Th.same{H:Hp}(h:Th H v)(s:Same H H1):Th H1 v:=h.elim .inl λ⟨t,xs,e,a,b⟩=>.inr ⟨t,xs,e,s _ _ a,b⟩
section
variable{X:Cx}{e e2 o:Expr}{to te:TE}{t:TA}{pos apos cpos:Pos}
inductive TyC (H:Hp):V->Value->Prop where
 | non:TyC H .non (.type "NoneType")
 | bl (b:Bool):TyC H (.bl b) (.type "bool")
 | int (i:Int):TyC H (.int i) (.type "int")
 | str (x:Str):TyC H (.str x) (.type "str")
 | lst {a:Addr}{xs:List V}(e:H a=some (.lst xs)):TyC H (.ref a) (.type "list")
 | tup {a:Addr}{xs:List V}(e:H a=some (.tup xs)):TyC H (.ref a) (.type "tuple")
def xj (K:EG):RC:=λxs H Q=>∃x t tp b,xs=[x,.ref tp]/\H tp=some (.tup [.ty "list",.ty "tuple"])/\TyC H x t/\LV K t [.type "list",.type "tuple"]=some b/\Q (.bl b) H
theorem xk {K:EG}(hK:X.K=K:=by rfl):QC X (.builtin "isinstance") (xj K):=by
 subst hK;refine⟨λpins s σ H xs us Q I r h=>?_⟩;obtain⟨x,t,tp,b,rfl,htp,ty,e,q⟩:=h;cases r with
 | cons rx rr=>
  cases rr with
  | cons ry rr=>
   cases rr;cases ry;obtain⟨_,its,rv,⟨⟨c,dd,dt,sl⟩,g1,g2,n,g3⟩⟩:=(show ObjOk X.prog X.w H s.heap tp (.tup [.ty "list",.ty "tuple"])from I.hok tp _ htp);have g2':c=.type "tuple":=g2;have g3':dt=.seq its.toArray n:=g3;subst g2' g3';have ei:its=[.type "list",.type "tuple"]:=by
    cases rv with
    | cons r1 rr=>
     cases rr with
     | cons r2 rr=>
      cases rr;cases r1;cases r2;rfl
   subst ei;have fin:∀tk,EP X pins σ Q (.bool b) { s with toks:=tk }:=λtk=>⟨.bl b,H,I.tok _,rfl,q⟩
   cases ty with
   | non=>cases(show _=Ft from rx);exact F1 IX I.kIn EX g1 e (λz=>nomatch z) fin
   | bl i=>cases(show _=Ja i from rx);exact F1 KN I.kIn EX g1 e (λz=>nomatch z) fin
   | int i=>obtain⟨tt,rfl⟩:=rx;exact F1 Jg I.kIn EX g1 e (λz=>nomatch z) fin
   | str i=>obtain⟨tt,rfl⟩:=rx;exact F1 Lc I.kIn EX g1 e (λz=>nomatch z) fin
   | @lst a xs ea=>
    cases rx;obtain⟨_,_,n',_,h1⟩:=(show ObjOk X.prog X.w H s.heap a (.lst xs)from I.hok a _ ea);exact F1 HN I.kIn ⟨_,h1,rfl⟩ g1 e (λz=>nomatch z) fin
   | @tup a xs ea=>
    cases rx;obtain⟨_,_,_,⟨o',h1,h2,_⟩⟩:=(show ObjOk X.prog X.w H s.heap a (.tup xs)from I.hok a _ ea);exact F1 IF I.kIn ⟨_,h1,h2⟩ g1 e (λz=>nomatch z) fin
theorem gX(l:Addr)(items:Array Value)(n:Nat)(b:Addr)(items2:Array Value)(n2:Nat)(dd2:Option Addr)(sl2:Array (Option Value))(hlong:¬(!items.isEmpty && F3 (items.size+items2.size))=true)(hz:items.size<=sizeLine)(hz2:items.size+items2.size<=sizeLine+1):
  Meets (Builtin.«list.extend» ⟨[.ref l,.ref b],[]⟩)
   (λ_ R s=>s.heap.get? l=some { cls:=.type "list",data:=.seq items n }/\s.heap.get? b=some { cls:=.type "tuple",dict:=dd2,data:=.seq items2 n2,slots:=sl2 }/\
    R (.ok (.ret .none)) { s with heap:=s.heap.update l (Fj λx=>x++items2) }):=
 .of_wp λprog w A R s h=>by
  obtain⟨hp,g,d,tk,os⟩:=s;obtain⟨hl,hb,h⟩:=h;have f2:=Ji
  wp_walk using Im hl,Im hb
  have e9:(Fj (λx=>x++items2) { cls:=Gh "list",data:=NR items n }).data.pastItsLine=none:=by
   unfold Fj Data.pastItsLine;simp;lia
  rw[e9];exact Oi (Oi ⟨_,rfl,h⟩)
def jr:V->List V->Hp->VK->Prop:=λx vs H Q=>∃l b xs zs,x=.ref l/\vs=[.ref b]/\H l=some (.lst xs)/\H b=some (.tup zs)/\xs.length+zs.length<=sizeLine/\Q .non (upd H l (.lst (xs++zs)))
theorem nR:MtM X "list.extend" jr:=by
 intro pins s σ H x vs v us Q I rx rv h;obtain⟨l,b,xs,zs,rfl,rfl,hH,hB,hz,q⟩:=h;cases rx;obtain⟨u,rfl,ru⟩:=rv.one;cases ru;obtain⟨z,its,n,r,hl,e⟩:=I.lstM hH;obtain⟨its2,r2,⟨⟨c2,d2,t2,l2⟩,o4,o5,n2,o6⟩,hz2⟩:=I.tuple (N6 hB);have hl2:=r2.length;have o5':c2=.type "tuple":=o5;have o6':t2=.seq its2.toArray n2:=o6;subst o5' o6';have hsz:its.toArray.size+its2.toArray.size<=sizeLine:=by rw[EW,EW];lia
 have hlong:¬(!its.toArray.isEmpty && F3 (its.toArray.size+its2.toArray.size))=true:=by
  rw[jh hsz,LS];exact E9
 refine OB Ko ⟨_,e,rfl⟩ J7 (JW _ _)
  (gX l its.toArray n b its2.toArray n2 d2 l2 hlong (by rw[EW];lia) ⋯) ⟨e,o4,?_⟩
 refine⟨.non,_,I.lset (its':=its++its2) hH e (by simp) (r.append r2) ?_,rfl,q⟩;rw[Fd];lia
theorem nS {K:EG}(ho:QE X o to) (ha:QA X [e] t) (hbase:Oq o ("extend" : Str) X.env (eval o X.env)=eval o X.env:=by rfl) (hline:(apos.endLine == cpos.line)=true:=by rfl) (hn:bS e=true:=by rfl) (hK:X.K=K:=by rfl) :
  QE X (.Call (.Attribute o "extend" apos) [e] [] cpos) (tBM K "list" jr to t):=by subst hK;exact⟨fw GS Jm Jn nR ho.out ha.out hbase hline hn⟩
def pU(K:EG):V->List V->Hp->VK->Prop:=λx vs H Q=>∃(l:Addr) (ns:List Nat) (i j:Nat),x=.ref l/\vs=[.int (i:Nat)]/\SqL K H l (NV ns)/\ns[j]? = some i/\(∀m,m<j->ns[m]?≠some i)/\ns.length<2 ^ 62/\Q (.int (j:Nat)) H
theorem tL:MtM X "list.index" (pU X.K):=by
 intro pins s σ H x vs v us Q I rx rv h;obtain⟨l,ns,i,j,rfl,rfl,hq,hj,hm,hlen,q⟩:=h;cases rx;obtain⟨u,rfl,ru⟩:=rv.one;obtain⟨t,rfl⟩:=ru;obtain⟨its,r,pl,hz⟩:=I.list hq;obtain⟨⟨cc,dd,dt,sl⟩,n,ho,hc,hdd,hd⟩:=id pl;have hc':cc=.type "list":=hc;have hd':dt=.seq its.toArray n:=hd;subst hc' hd';have hl:its.length=ns.length:=by have:=r.length;rw[bt]at this;lia
 have hjl:=cE hj;have hj63:(j:Int)<2 ^ 63 - 1:=by
  have h1:j<2 ^ 62:=GN hjl hlen;have h2:(j:Int)<((2 ^ 62:Nat):Int):=Int.ofNat_lt.mpr h1;exact Int.lt_trans h2 (by decide)
 have item:∀(m:Nat) (h:m<its.toArray.size),∃t',its.toArray[m]=.int ((ns[m]'(by rw[EW]at h;lia):Nat):Int) t':=λm h=>by
  have hmn:m<ns.length:=by rw[EW]at h;lia
  obtain⟨u,e,t',ru⟩:=r.get (i:=m) (x:=N7 (ns[m]:Nat)) (gh (by simp[hmn]));have:its.toArray[m]=u:=by
   have h':m<its.length:=by lia
   rw[EF h']at e;simpa using EY e
  exact⟨t',by rw[this,ru]⟩
 refine OB F.slot_list_index ⟨_,ho,rfl⟩ F.entry_list_index (F.args_list_index_2 _ _)
  (SeqAt.list_indexAt l its.toArray n dd sl (.int (i:Nat) t) (λy=>match y with | .int k _=>k == ((i:Nat):Int)|_=>false) j (by rw[EW];lia) hj63 ?_ ?_) ⟨ho,?_,?_⟩
 ·obtain⟨t',e⟩:=item j (by rw[EW];lia)
  rw[e];have:ns[j]=i:=by rw[EF hjl]at hj;exact EY hj
  simp[this]
 ·intro m h hmj
  obtain⟨t',e⟩:=item m h;rw[e];have hmn:m<ns.length:=by lia
  have:ns[m]≠i:=λz=>hm m hmj (by rw[EF hmn,z])
  simp;lia
 ·intro y hy
  obtain⟨m,h,rfl⟩:=Array.getElem_of_mem hy;obtain⟨t',e⟩:=item m h;rw[e];exact IH _ _ _ _
 ·exact⟨.int (j:Nat),H,I.tok _,⟨_,rfl⟩,q⟩
theorem tM {K:EG}(ho:QE X o to) (ha:QA X [e] t) (hbase:Oq o ("index" : Str) X.env (eval o X.env)=eval o X.env:=by rfl) (hline:(apos.endLine == cpos.line)=true:=by rfl) (hn:bS e=true:=by rfl) (hK:X.K=K:=by rfl) :
  QE X (.Call (.Attribute o "index" apos) [e] [] cpos) (tBM K "list" (pU K) to t):=by subst hK;exact⟨fw GS PySem.F.slot_list_index PySem.F.type_list_index tL ho.out ha.out hbase hline hn⟩
end
section
variable{K:EG}{σ:St}{H:Hp}{Q:VK}
theorem mF {x:V}{tp:Addr}(e:H tp=some (.tup [.ty "list",.ty "tuple"])) (hx:Sc x) (h:Q (.bl false) H):xj K [x,.ref tp] H Q:=by
 rcases hx with rfl|⟨b,rfl⟩|⟨i,rfl⟩|⟨s,rfl⟩
 ·exact⟨_,_,tp,_,rfl,e,.non,rfl,h⟩
 ·exact⟨_,_,tp,_,rfl,e,.bl b,rfl,h⟩
 ·exact⟨_,_,tp,_,rfl,e,.int i,rfl,h⟩
 ·exact⟨_,_,tp,_,rfl,e,.str s,rfl,h⟩
theorem tN {tp:Addr}(s:H p=some (.tup xs)) (e:H tp=some (.tup [.ty "list",.ty "tuple"])) (h:Q (.bl true) H):xj K [.ref p,.ref tp] H Q:=⟨_,_,tp,_,rfl,e,.tup s,rfl,h⟩
theorem mG {x:V}(hx:Sc x) (h:Q (.bl false) H):rW K [x,.ty "list"] H Q:=by
 rcases hx with rfl|⟨b,rfl⟩|⟨i,rfl⟩|⟨s,rfl⟩
 ·exact⟨_,_,_,_,rfl,.non,rfl,h⟩
 ·exact⟨_,_,_,_,rfl,.bl b,rfl,h⟩
 ·exact⟨_,_,_,_,rfl,.int i,rfl,h⟩
 ·exact⟨_,_,_,_,rfl,.str s,rfl,h⟩
theorem mH {x:V}(hx:Sc x) (h:Q (.bl false) H):rW K [x,.ty "tuple"] H Q:=by
 rcases hx with rfl|⟨b,rfl⟩|⟨i,rfl⟩|⟨s,rfl⟩
 ·exact⟨_,_,_,_,rfl,.non,rfl,h⟩
 ·exact⟨_,_,_,_,rfl,.bl b,rfl,h⟩
 ·exact⟨_,_,_,_,rfl,.int i,rfl,h⟩
 ·exact⟨_,_,_,_,rfl,.str s,rfl,h⟩
theorem Bz (h:Q (.bl true) H):rW K [.str x,.ty "str"] H Q:=⟨_,_,_,_,rfl,.str x,rfl,h⟩
theorem nT{c:Addr}(h1:H l=some (.lst xs))(h2:H c=some (.tup ys))(hz:xs.length+ys.length<=sizeLine)(h:Q .non (upd H l (.lst (xs++ys)))):jr (.ref l) [.ref c] H Q:=⟨l,c,xs,ys,rfl,rfl,h1,h2,hz,h⟩
theorem tO{ns:List Nat}(h1:H l=some (.lst (NV ns)))(h2:ns[j]? = some i)(h3:∀m,m<j->ns[m]?≠some i)(h4:ns.length<=1000)(h:Q (.int (j:Nat)) H):pU K (.ref l) [.int (i:Nat)] H Q:=⟨l,ns,i,j,rfl,rfl,N4 h1,h2,h3,FC h4 (by decide),h⟩
end
section
variable{X:Cx}{tg a b c:Expr}{t:TA}{p pos:Pos}
end
section
variable{X:Cx}{e o b:Expr}{to tb te:TE}{pos tpos:Pos}
end
end L2
namespace HT
open PySem PyProof.Rows L2
section
variable{prog:Program}{w:World}{A:Around}{E:Value->Shared->Prop}{s:Shared}
end
end HT
namespace L2
open PySem PySem.Spec PyProof.Rows
section
variable{X:Cx}{tg a b:Expr}{t:TA}{p pos:Pos}
end
section
variable{K:EG}{σ:St}{H:Hp}{Q:VK}
end
noncomputable def prs:Nat->List Nat->List (Nat×Nat)
 | f,a::r=>(f,f+a)::prs (f+a) r
 | _,[]=>[]
noncomputable def brk(rss:List (List Nat))(k:Nat):Bool:=lxt (rss.getD k []) (rss.getD (k - 1) [])
end L2
namespace L2
open PySem PySem.Spec PyProof.Rows PySem.W
noncomputable def Sat(N:Nat)(lt:Nat->Nat->Bool){α:Type}:KasT α->(α->Prop)->Prop
 | .ret a,R=>R a
 | .ask i j k,R=>i<N/\j<N/\Sat N lt (k (lt i j)) R
theorem Sat.mono{N:Nat}{lt:Nat->Nat->Bool}{α:Type}{R R':α->Prop}(hR:∀a,R a->R' a):∀(t:KasT α),Sat N lt t R->Sat N lt t R'
 | .ret _,h=>hR _ h
 | .ask i j k,h=>⟨h.1,h.2.1,Sat.mono hR (k (lt i j)) h.2.2⟩
theorem Sat.bind{N:Nat}{lt:Nat->Nat->Bool}{α β:Type}{R:α->Prop}{R':β->Prop}{f:α->KasT β}(hf:∀a,R a->Sat N lt (f a) R'):∀(t:KasT α),Sat N lt t R->Sat N lt (t.bind f) R'
 | .ret a,h=>hf a h
 | .ask i j k,h=>⟨h.1,h.2.1,Sat.bind hf (k (lt i j)) h.2.2⟩
theorem Sat.wp{N:Nat}{lt:Nat->Nat->Bool}{α:Type}{R:α->Prop}{I:Shared->Prop}{cmp:Nat->Nat->(Bool->Shared->Prop)->Shared->Prop}
  (hc:∀i j (C:Bool->Shared->Prop) s,i<N->j<N->I s->(∀s',I s'->C (lt i j) s')->cmp i j C s){Q:α->Shared->Prop} :
  ∀(t:KasT α) (s:Shared),Sat N lt t R->I s->(∀a s',R a->I s'->Q a s')->t.kasWp cmp Q s
 | .ret a,s,h,hi,hq=>hq a s h hi
 | .ask i j k,s,h,hi,hq=>hc i j _ s h.1 h.2.1 hi λs' hi'=>Sat.wp hc (k (lt i j)) s' h.2.2 hi' hq
structure Lt (lt:Nat->Nat->Bool):Prop where
 asym:∀i j,lt i j=true->lt j i=false
 tr:∀i j k,lt i j=false->lt j k=false->lt i k=false
def Ah(lt:Nat->Nat->Bool)(i j:Nat):Prop:=lt j i=false/\(lt i j=false->i<j)
theorem Ah.of_lt{lt:Nat->Nat->Bool}(H:Lt lt)(h:lt i j=true):Ah lt i j:=⟨H.asym i j h,λh'=>by rw[h]at h';cases h'⟩
theorem Ah.trans{lt:Nat->Nat->Bool}(H:Lt lt)(a:Ah lt i j)(b:Ah lt j k):Ah lt i k:=by
 refine⟨H.tr k j i b.1 a.1,λh=>?_⟩;have h1:lt i j=false:=H.tr i k j h b.1;have h2:lt j k=false:=H.tr j i k a.1 h;exact GN (a.2 h1) (b.2 h2)
theorem ly{lt:Nat->Nat->Bool}(H:Lt lt)(h:lt i j=true)(h':lt k j=false):lt i k=true:=by
 cases e:lt i k with
 | true=>rfl
 | false=>rw[H.tr i k j e h']at h;cases h
theorem tP{lt:Nat->Nat->Bool}(H:Lt lt)(h:lt i j=true)(h':lt i k=false):lt k j=true:=by
 cases e:lt k j with
 | true=>rfl
 | false=>rw[H.tr i k j h' e]at h;cases h
section
variable{N:Nat}{lt:Nat->Nat->Bool}
structure Pm (N:Nat) (p:Array Nat):Prop where
 sz:p.size=N
 bd:∀i,i<N->p.getD i 0<N
 inj:∀i j,i<N->j<N->p.getD i 0=p.getD j 0->i=j
theorem js{p:Array Nat}(h:p.Perm (Fo (EZ N))):Pm N p:=by
 have hp:p.toList.Perm (EZ N):=by simpa using IT.mp h
 have hs:p.size=N:=by rw[<-FF,hp.length_eq,Fz]
 have hn:p.toList.Nodup:=hp.nodup_iff.mpr Lh;refine⟨hs,λi hi=>?_,λi j hi hj e=>?_⟩
 ·have hi':i<p.size:=by lia
  have:p[i]∈p.toList:=JU.mpr (Array.getElem_mem hi');have h2:=hp.mem_iff.mp this;rw[show p.getD i 0=p[i]by simp[Io,hi']];exact FE.mp h2
 ·have hi':i<p.size:=by lia
  have hj':j<p.size:=by lia
  rw[show p.getD i 0=p[i]by simp[Io,hi'],show p.getD j 0=p[j]by simp[Io,hj']]at e;have e':p.toList[i]'(by simpa using hi')=p.toList[j]'(by simpa using hj'):=by simpa using e
  have hq:=FQ.mp hn;rcases G3 i j with x|x|x
  ·exact absurd e' (hq i j _ _ x)
  ·exact x
  ·exact absurd e'.symm (hq j i _ _ x)
theorem cH{p:Array Nat}(hj:j<=p.size)(k:Nat):(kas_rev p i j).getD k 0=if i<=k/\k<j then p.getD (i+j - 1 - k) 0 else p.getD k 0:=by
 have h:=getElem?_mirror_all (i:=i) hj k;rw[GD,GD,GD];show((mirror p i j ((j - i) / 2))[k]?).getD 0=_
 rw[h];split<;>rfl
theorem jt{p:Array Nat}{l:Nat}(hk:k<p.size)(hl:l<=k)(i:Nat):(bubble p k (k - l)).getD i 0=if i=l then p.getD k 0 else if l<i/\i<=k then p.getD (i - 1) 0 else p.getD i 0:=by
 have h:=getElem?_bubble hk (k - l) ⋯ i;have e:k - (k - l)=l:=by lia
 rw[e]at h;simp only[GD];rw[h]
 repeat' split
 all_goals rfl
theorem gy{p:Array Nat}(i j:Nat)(h:p.Perm (Fo (EZ N))):(kas_rev p i j).Perm (Fo (EZ N)):=(mirror_perm _ _ _ _).trans h
theorem tQ{p:Array Nat}(i j:Nat)(h:p.Perm (Fo (EZ N))):(bubble p i j).Perm (Fo (EZ N)):=(bubble_perm _ _ _).trans h
def Tl(N:Nat)(p:Array Nat)(m:Nat):Prop:=∀i,m<=i->i<N->p.getD i 0=i
theorem Pm.lo{p:Array Nat}(P:Pm N p)(T:Tl N p m)(hi:i<m)(hm:m<=N):p.getD i 0<m:=by
 rcases FI (p.getD i 0) m with h|h
 ·exact h
 ·have h2:=T _ h (P.bd i ⋯)
  have:=P.inj _ _ (P.bd i ⋯) ⋯ h2;lia
def Up(lt:Nat->Nat->Bool)(p:Array Nat)(m:Nat):Prop:=∀i,0<i->i<m->Ah lt (p.getD (i - 1) 0) (p.getD i 0)
theorem Up.all(H:Lt lt){p:Array Nat}{m:Nat}(U:Up lt p m):∀d i,i+d+1<m->Ah lt (p.getD i 0) (p.getD (i+d+1) 0)
 | 0,i,h=>U (i+1) ⋯ h
 | d+1,i,h=>(Up.all H U d i ⋯).trans H (U (i+d+1+1) ⋯ h)
theorem Up.at(H:Lt lt){p:Array Nat}(U:Up lt p m)(h:i<j)(hj:j<m):Ah lt (p.getD i 0) (p.getD j 0):=by
 have:=U.all H (j - i - 1) i ⋯;rw[show i+(j - i - 1)+1=j by lia]at this;exact this
theorem lz{p:Array Nat}(hb:∀i,i<N->p.getD i 0<N):∀(f n:Nat),1<=n->n+f<=N->
  Sat N lt (kas_asc p f n) (λm=>n<=m/\m<=n+f/\(∀i,n<=i->i<m->lt (p.getD i 0) (p.getD (i - 1) 0)=false)/\(m<n+f->lt (p.getD m 0) (p.getD (m - 1) 0)=true))
 | 0,n,_,_=>⟨EI _,EI _,λi a b=>by lia,λh=>by lia⟩
 | f+1,n,h1,hN=>by
  refine⟨hb _ ⋯,hb _ ⋯,?_⟩;cases e:lt (p.getD n 0) (p.getD (n - 1) 0)with
  | true=>
   simp only[if_true];exact⟨EI _,by lia,λi a b=>by lia,λ_=>e⟩
  | false=>
   simp only[FK,if_false];refine Sat.mono (λm hm=>?_) _ (lz hb f (n+1) ⋯ ⋯);obtain⟨a,b,c,d⟩:=hm;refine⟨by lia,by lia,λi hi him=>?_,λh=>d ⋯⟩;rcases Ks hi with rfl|h
   ·exact e
   ·exact c i h him
structure Dn (N:Nat) (lt:Nat->Nat->Bool) (p:Array Nat) (n q:Nat):Prop where
 perm:p.Perm (Fo (EZ N))
 tl:Tl N p n
 fall:∀i,0<i->i+(q+1)<n->Ah lt (p.getD i 0) (p.getD (i - 1) 0)
 like:∀i,n<=i+q->i<n->Ah lt (p.getD (i - 1) 0) (p.getD i 0)/\lt (p.getD (i - 1) 0) (p.getD i 0)=false
 join:∀i,0<i->i+(q+1)=n->lt (p.getD i 0) (p.getD (i - 1) 0)=true
 len:q+1<=n
 top:n<=N
theorem Dn.alike(H:Lt lt){p:Array Nat}{n q:Nat}(D:Dn N lt p n q):∀d i j,i+d=j->n<=i+q+1->j<n->lt (p.getD i 0) (p.getD j 0)=false/\lt (p.getD j 0) (p.getD i 0)=false
 | 0,i,j,e,h1,h2=>by
  have:i=j:=by lia
  subst this;cases e:lt (p.getD i 0) (p.getD i 0)with
  | false=>exact⟨rfl,rfl⟩
  | true=>have:=H.asym _ _ e;rw[e]at this;cases this
 | d+1,i,j,e,h1,h2=>by
  obtain⟨a,b⟩:=Dn.alike H D d i (j - 1) ⋯ h1 ⋯;obtain⟨⟨c,_⟩,c'⟩:=D.like j ⋯ h2;exact⟨H.tr _ _ _ a c',H.tr _ _ _ c b⟩
theorem Dn.turn(H:Lt lt){p:Array Nat}{q:Nat}(D:Dn N lt p n q):Tl N (kas_rev p (n - (q+1)) n) n/\(∀i,0<i->i<n->Ah lt ((kas_rev p (n - (q+1)) n).getD i 0) ((kas_rev p (n - (q+1)) n).getD (i - 1) 0))/\
  (∀x,lt x (p.getD (n - 1) 0)=true->lt x ((kas_rev p (n - (q+1)) n).getD (n - 1) 0)=true):=by
 have P:=js D.perm;have hn:n<=p.size:=by rw[P.sz];exact D.top
 have hl:=D.len;refine⟨λi h1 h2=>?_,λi h1 h2=>?_,λx hx=>?_⟩
 ·rw[cH hn,if_neg ⋯];exact D.tl i h1 h2
 ·rw[cH hn,cH hn]
  by_cases c1:n - (q+1)<=i
  ·rw[if_pos ⟨c1,h2⟩]
   by_cases c2:n - (q+1)<=i - 1
   ·rw[if_pos ⟨c2,by lia⟩]
    have:=(D.like (n - (q+1)+n - 1 - (i - 1)) ⋯ ⋯).1;rw[show n - (q+1)+n - 1 - (i - 1) - 1=n - (q+1)+n - 1 - i by lia]at this;exact this
   ·rw[if_neg ⋯]
    have ei:i=n - (q+1):=by lia
    rw[show n - (q+1)+n - 1 - i=n - 1 by lia];have j:=D.join i h1 ⋯;have k:=(D.alike H (n - 1 - i) i (n - 1) ⋯ ⋯ ⋯).1;exact Ah.of_lt H (tP H j k)
  ·rw[if_neg ⋯,if_neg ⋯]
   exact D.fall i h1 ⋯
 ·rw[cH hn,if_pos ⋯,show n - (q+1)+n - 1 - (n - 1)=n - (q+1)by lia]
  have k:=(D.alike H (n - 1 - (n - (q+1))) (n - (q+1)) (n - 1) ⋯ ⋯ ⋯).1;exact ly H hx k
theorem gz(H:Lt lt):∀(f:Nat) (p:Array Nat) (n q:Nat),Dn N lt p n q->n+f<=N->
  Sat N lt (kas_desc f p n q) (λr=>Dn N lt r.1 r.2.1 r.2.2)
 | 0,p,n,q,D,_=>D
 | f+1,p,n,q,D,hN=>by
  have P:=js D.perm;have hl:=D.len;have hn:n<=p.size:=by rw[P.sz];exact D.top
  refine⟨P.bd _ ⋯,P.bd _ ⋯,?_⟩;cases e:lt (p.getD n 0) (p.getD (n - 1) 0)with
  | true=>
   simp only[if_true];have step:∀p':Array Nat,p'.Perm (Fo (EZ N))->Tl N p' n->(∀i,0<i->i<n->Ah lt (p'.getD i 0) (p'.getD (i - 1) 0))->lt (p'.getD n 0) (p'.getD (n - 1) 0)=true->Dn N lt p' (n+1) 0:=
    λp' a b c d=>⟨a,λi h1 h2=>b i ⋯ h2,λi h1 h2=>c i h1 ⋯,λi h1 h2=>by lia,
     λi h1 h2=>by(have:i=n:=⋯);subst this;exact d,by lia,by lia⟩
   by_cases hq:q > 0
   ·rw[if_pos hq]
    obtain⟨t1,t2,t3⟩:=D.turn H;refine gz H f _ (n+1) 0 (step _ (gy _ _ D.perm) t1 t2 ?_) ⋯;refine t3 _ ?_;rw[cH hn,if_neg ⋯];exact e
   ·rw[if_neg hq]
    have hq0:q=0:=by lia
    subst hq0;refine gz H f _ (n+1) 0 (step _ D.perm D.tl (λi h1 h2=>?_) e) ⋯;rcases FI (i+1) n with h|h
    ·exact D.fall i h1 h
    ·exact Ah.of_lt H (D.join i h1 ⋯)
  | false=>
   simp only[FK,if_false];refine⟨P.bd _ ⋯,P.bd _ ⋯,?_⟩;cases e2:lt (p.getD (n - 1) 0) (p.getD n 0)with
   | true=>
    simp only[if_true];exact D
   | false=>
    simp only[FK,if_false];refine gz H f p (n+1) (q+1) ⟨D.perm,λi h1 h2=>D.tl i ⋯ h2,λi h1 h2=>D.fall i h1 ⋯,λi h1 h2=>?_,λi h1 h2=>D.join i h1 ⋯,by lia,by lia⟩ ⋯;rcases FI i n with h|h
    ·exact D.like i ⋯ h
    ·have:i=n:=by lia
     subst this;refine⟨⟨e,λ_=>?_⟩,e2⟩;rw[D.tl i (EI _) ⋯];exact P.lo D.tl ⋯ D.top
structure Rn (N:Nat) (lt:Nat->Nat->Bool) (p:Array Nat) (m:Nat):Prop where
 perm:p.Perm (Fo (EZ N))
 tl:Tl N p m
 up:Up lt p m
 top:m<=N
theorem Rn.longer(H:Lt lt){p:Array Nat}(R:Rn N lt p n)(h1:1<=n)(h:n<=m)(hm:m<=N)(ha:∀i,n<=i->i<m->lt (p.getD i 0) (p.getD (i - 1) 0)=false):Rn N lt p m:=by
 have P:=js R.perm;refine⟨R.perm,λi a b=>R.tl i ⋯ b,λi a b=>?_,hm⟩;rcases FI i n with c|c
 ·exact R.up i a c
 ·refine⟨ha i c b,λ_=>?_⟩
  rw[R.tl i c ⋯];exact P.lo (λj x y=>R.tl j ⋯ y) ⋯ ⋯
theorem nU(H:Lt lt){p:Array Nat}(hp:p.Perm (Fo (EZ N)))(T:Tl N p n)(hn:n<=N)(F:∀i,0<i->i<n->Ah lt (p.getD i 0) (p.getD (i - 1) 0)):Rn N lt (kas_rev p 0 n) n:=by
 have P:=js hp;have hs:n<=p.size:=by rw[P.sz];exact hn
 refine⟨gy _ _ hp,λi a b=>?_,λi a b=>?_,hn⟩
 ·rw[cH hs,if_neg ⋯];exact T i a b
 ·rw[cH hs,cH hs,if_pos ⋯,if_pos ⋯]
  have:=F (0+n - 1 - (i - 1)) ⋯ ⋯;rw[show 0+n - 1 - (i - 1) - 1=0+n - 1 - i by lia]at this;exact this
theorem ki(H:Lt lt){p:Array Nat}(h1:1<=n)(hp:p.Perm (Fo (EZ N)))(T:Tl N p n)(hn:n<=N)(F:∀i,0<i->i<n->Ah lt (p.getD i 0) (p.getD (i - 1) 0)):
  Sat N lt (kas_tail3 n N p) (λr=>1<=r.1/\Rn N lt r.2 r.1):=by
 have R:=nU H hp T hn F;refine Sat.bind (λm hm=>?_) _ (lz (js R.perm).bd (N - n) n h1 ⋯);exact⟨by show 1<=m;lia,R.longer H h1 hm.1 ⋯ hm.2.2.1⟩
theorem gi(H:Lt lt){p:Array Nat}(D:Dn N lt p (n+1) 0):Sat N lt (kas_descPart n N p) (λr=>1<=r.1/\Rn N lt r.2 r.1):=by
 have:=D.top;refine Sat.bind (λr D'=>?_) _ (gz H (N - (n+1)) p (n+1) 0 D ⋯);have hl:=D'.len;by_cases hq:r.2.2 > 0
 ·rw[if_pos hq]
  obtain⟨t1,t2,_⟩:=D'.turn H;exact ki H ⋯ (gy _ _ D'.perm) t1 D'.top t2
 ·rw[if_neg hq]
  refine ki H ⋯ D'.perm D'.tl D'.top λi h1 h2=>?_
  rcases FI (i+(r.2.2+1)) r.2.1 with h|h
  ·exact D'.fall i h1 h
  ·exact Ah.of_lt H (D'.join i h1 ⋯)
theorem bo(i:Nat)(h:i<N):(Fo (EZ N)).getD i 0=i:=by
 simp[Io,h]
theorem pV(H:Lt lt)(h1:1<=N):Sat N lt (kas_count N (Fo (EZ N))) (λr=>1<=r.1/\Rn N lt r.2 r.1):=by
 have hp:(Fo (EZ N)).Perm (Fo (EZ N)):=NX _;have P:=js hp;have R1:Rn N lt (Fo (EZ N)) 1:=⟨hp,λi a b=>bo i b,λi a b=>by lia,h1⟩;refine Sat.bind (λn hn=>?_) _ (lz P.bd (N - 1) 1 (EI _) ⋯);obtain⟨a,b,c,d⟩:=hn;have R:=R1.longer H (EI _) a ⋯ c;by_cases e:n=N
 ·rw[if_pos (by simp[e])];exact⟨a,R⟩
 ·rw[if_neg (by simp[e])]
  have dd:=d ⋯;rw[bo _ ⋯,bo _ ⋯]at dd;by_cases h:n > 1
  ·rw[if_pos h]
   refine⟨P.bd _ ⋯,P.bd _ ⋯,?_⟩;rw[bo _ ⋯,bo _ ⋯];cases e2:lt 0 (n - 1)with
   | true=>
    simp only[if_true];exact⟨a,R⟩
   | false=>
    simp only[FK,if_false];have hs:n<=(Fo (EZ N)).size:=by simp;lia
    have le:∀i j,i<j->j<n->lt j i=false:=λi j x y=>by
     have:=(R.up.at H x y).1
     rwa [bo _ ⋯,bo _ ⋯]at this
    have ge:∀i j,i<j->j<n->lt i j=false:=λi j x y=>by
     have p1:lt i 0=false:=by
      rcases IK i with rfl|q
      ·cases e5:lt 0 0 with
       | false=>rfl
       | true=>have:=H.asym _ _ e5;rw[e5]at this;cases this
      ·exact le 0 i q ⋯
     have p2:lt (n - 1) j=false:=by
      rcases FI j (n - 1)with q|q
      ·exact le j (n - 1) q ⋯
      ·have:j=n - 1:=by lia
       subst this;cases e5:lt (n - 1) (n - 1)with
       | false=>rfl
       | true=>have:=H.asym _ _ e5;rw[e5]at this;cases this
     exact H.tr _ _ _ p1 (H.tr _ _ _ e2 p2)
    have g:∀i,i<N->(kas_rev (Fo (EZ N)) 0 n).getD i 0=if i<n then n - 1 - i else i:=λi hi=>by
     rw[cH hs];by_cases q:i<n
     ·rw[if_pos ⋯,if_pos q,bo _ ⋯];lia
     ·rw[if_neg ⋯,if_neg q,bo _ hi]
    refine gi H ⟨gy _ _ hp,λi x y=>?_,λi x y=>?_,λi x y=>by lia,λi x y=>?_,by lia,by lia⟩
    ·rw[g i y,if_neg ⋯]
    ·rw[g i ⋯,g (i - 1) ⋯,if_pos ⋯,if_pos ⋯]
     exact⟨le _ _ ⋯ ⋯,λ_=>by lia⟩
    ·have ei:i=n:=by lia
     subst ei;rw[g i ⋯,g (i - 1) ⋯,if_neg ⋯,if_pos ⋯,show i - 1 - (i - 1)=0 by lia];exact ly H dd e2
  ·rw[if_neg h]
   have:n=1:=by lia
   subst this;refine gi H ⟨hp,λi x y=>bo i y,λi x y=>by lia,λi x y=>by lia,λi x y=>?_,by lia,by lia⟩;have:i=1:=by lia
   subst this;rw[bo _ ⋯,bo _ ⋯];exact dd
theorem gY(H:Lt lt){p:Array Nat}{k:Nat}(R:Rn N lt p k)(hk:k<N):∀(f l r:Nat),l<=r->r<=k->r - l<=f->(∀i,i<l->lt k (p.getD i 0)=false)->(∀i,r<=i->i<k->lt k (p.getD i 0)=true)->
  Sat N lt (kas_place p k f l r) (λm=>m<=k/\(∀i,i<m->lt k (p.getD i 0)=false)/\(∀i,m<=i->i<k->lt k (p.getD i 0)=true))
 | 0,l,r,h1,h2,h3,a,b=>⟨by lia,a,λi x y=>b i ⋯ y⟩
 | f+1,l,r,h1,h2,h3,a,b=>by
  have P:=js R.perm;unfold kas_place;by_cases h:l>=r
  ·rw[if_pos h]
   exact⟨by lia,a,λi x y=>b i ⋯ y⟩
  ·rw[if_neg h]
   refine⟨P.bd _ ⋯,P.bd _ ⋯,?_⟩;have ek:p.getD k 0=k:=R.tl k (EI _) hk;rw[ek];cases e:lt k (p.getD ((l+r) / 2) 0)with
   | true=>
    simp only[if_true];refine gY H R hk f l ((l+r) / 2) ⋯ ⋯ ⋯ a λi x y=>?_
    rcases Ks x with rfl|x
    ·exact e
    ·exact ly H e (R.up.at H x y).1
   | false=>
    simp only[FK,if_false];refine gY H R hk f ((l+r) / 2+1) r ⋯ h2 ⋯ (λi x=>?_) b;rcases FI i ((l+r) / 2)with y|y
    ·exact H.tr _ _ _ e (R.up.at H y ⋯).1
    ·have:i=(l+r) / 2:=by lia
     subst this;exact e
theorem Rn.put(H:Lt lt){p:Array Nat}(R:Rn N lt p k)(hk:k<N)(hm:m<=k)(a:∀i,i<m->lt k (p.getD i 0)=false)(b:∀i,m<=i->i<k->lt k (p.getD i 0)=true):Rn N lt (bubble p k (k - m)) (k+1):=by
 have P:=js R.perm;have hs:k<p.size:=by rw[P.sz];exact hk
 have ek:p.getD k 0=k:=R.tl k (EI _) hk;refine⟨tQ _ _ R.perm,λi x y=>?_,λi x y=>?_,hk⟩
 ·rw[jt hs hm,if_neg ⋯,if_neg ⋯];exact R.tl i ⋯ y
 ·rw[jt hs hm,jt hs hm,ek]
  rcases FI i m with c|c
  ·rw[if_neg ⋯,if_neg ⋯,if_neg ⋯,if_neg ⋯]
   exact R.up i x ⋯
  ·by_cases c1:i=m
   ·rw[if_neg ⋯,if_neg ⋯,if_pos c1]
    exact⟨a _ ⋯,λ_=>P.lo R.tl ⋯ ⋯⟩
   ·by_cases c2:i=m+1
    ·rw[if_pos ⋯,if_neg ⋯,if_pos ⋯]
     exact Ah.of_lt H (b _ ⋯ ⋯)
    ·rw[if_neg ⋯,if_pos ⋯,if_neg ⋯,if_pos ⋯]
     exact R.up (i - 1) ⋯ ⋯
theorem pW(H:Lt lt):∀(f:Nat) (p:Array Nat) (k:Nat),Rn N lt p k->k+f=N->Sat N lt (kas_bin f p k) (λr=>Rn N lt r N)
 | 0,p,k,R,h=>by
  have:k=N:=by lia
  subst this;exact R
 | f+1,p,k,R,h=>by
  refine Sat.bind (λm hm=>?_) _ (gY H R ⋯ k 0 k (EU _) (EI _) ⋯ (λi x=>by lia) λi x y=>by lia);exact pW H f _ (k+1) (R.put H ⋯ hm.1 hm.2.1 hm.2.2) ⋯
theorem tR(H:Lt lt)(h1:1<=N):Sat N lt (kas_sort N) (λr=>Rn N lt r N):=by
 refine Sat.bind (λr hr=>?_) _ (pV H h1);obtain⟨a,R⟩:=hr;have ht:=R.top;by_cases h:r.1<N
 ·rw[if_pos h,Nat.max_eq_left a]
  exact pW H _ _ _ R ⋯
 ·rw[if_neg h]
  have:r.1=N:=by lia
  rw[this]at R;exact R
theorem Rn.list(H:Lt lt){p:Array Nat}(R:Rn N lt p N):p.toList.Perm (EZ N)/\p.toList.Pairwise (Ah lt):=by
 have P:=js R.perm;refine⟨by simpa using IT.mp R.perm,?_⟩;rw[FQ];intro i j hi hj hij;have hi':i<p.size:=by simpa using hi
 have hj':j<p.size:=by simpa using hj
 have:=R.up.at H hij (by rw[<-P.sz];exact hj');rw[show p.getD i 0=p[i]by simp[Io,hi'],show p.getD j 0=p[j]by simp[Io,hj']]at this;simpa using this
end
end L2
namespace HT
open PySem PyProof.Rows PySem.W L2
theorem pX{prog:Program}{w:World}{A:Around}{s:Shared}{κ:SortKind}{lt:Nat->Nat->Bool}{ks vs:List Value}{I:Shared->Prop}(hl:ks.length=vs.length)(h2:2<=vs.length)(H:Lt lt)(hI:I s)
  (hc:∀i j s',i<vs.length->j<vs.length->I s'->wpAny (model prog w) A (keyLt' κ (ks.getD i Ft) (ks.getD j Ft)) (λb s''=>b=lt i j/\I s'') (λ_ _=>False) s')
  (h64:vs.length<64:=by first|lia|(rw[J8];lia)) :
  wpAny (model prog w) A ((sortRuns').run (Ip κ (ks.toArray.zip vs.toArray) #[] 7 none))
   (λr s'=>∃p:Array Nat,arrOf r.2=p.map (kas_item (ks.toArray.zip vs.toArray))/\failedOf r.2=none/\p.size=vs.length/\I s'/\p.toList.Perm (EZ vs.length)/\p.toList.Pairwise (Ah lt)) E s:=by
 have ask:=Sat.wp (I:=I) (cmp:=kas_ask prog w A κ ks) (N:=vs.length) (lt:=lt) (Q:=λp s'=>I s'/\p.toList.Perm (EZ vs.length)/\p.toList.Pairwise (Ah lt))
  (λi j C s' hi hj es hC=>Om (hc i j s' hi hj es) (λb s'' hb=>by obtain⟨rfl,hb2⟩:=hb;exact hC _ hb2) λ_ _ z=>z) _ _ (tR H ⋯) hI (λp s' R es=>⟨es,R.list H⟩)
 refine Om (kat_run (ks:=ks) (vs:=vs) (Q:=λst' s'=>∃p:Array Nat,arrOf st'=p.map (kas_item (ks.toArray.zip vs.toArray))/\failedOf st'=none/\p.size=vs.length/\I s'/\p.toList.Perm (EZ vs.length)/\p.toList.Pairwise (Ah lt)) hl ⋯ h64
   (λp st' s' a1 a2 a3 a4=>⟨p,a2,a3,a1,a4⟩) ask) (λr s' hr=>hr) λ_ _ e=>e
section
variable{prog:Program}{w:World}{A:Around}{E:Value->Shared->Prop}{s:Shared}
theorem mI{R:Nat->Nat->Prop}(n:Nat)(h:n<2):(EZ n).Pairwise R:=by
 match n,h with
 | 0,_=>exact .nil
 | 1,_=>exact List.pairwise_singleton _ _
theorem ju {vs:List Value}{κ:SortKind}{lt:Nat->Nat->Bool}{P:NJ->Shared->Prop}(ho:s.heap.get? a=some (seqObj "list" vs.toArray n)) (h64:vs.length<64) (H:Lt lt)
  (hk:∀h' (Q:SortKind->Shared->Prop),2<=vs.length->(∀b o,b≠a->s.heap.get? b=some o->h'.get? b=some o)->Q κ { s with heap:=h' }->wpAny (model prog w) A (keyKind' vs.toArray) Q (λ_ _=>False) { s with heap:=h' })
  (hc:∀h' i j (Q:Bool->Shared->Prop),i<vs.length->j<vs.length->(∀b o,b≠a->s.heap.get? b=some o->h'.get? b=some o)->Q (lt i j) { s with heap:=h' }->
   wpAny (model prog w) A (keyLt' κ (vs.getD i Ft) (vs.getD j Ft)) Q (λ_ _=>False) { s with heap:=h' })
  (h:∀p:List Nat,p.Perm (EZ vs.length)->p.Pairwise (Ah lt)->P (.done (.ret .none)) { s with heap:=sortedHeap s.heap a vs (Fo (p.map λi=>vs.getD i Ft)) }) :
  wpAny (model prog w) A (Builtin.«list.sort» ⟨[.ref a],[]⟩) P E s:=by
 rw[list_sort_plain];have ha:a<s.heap.objs.size:=EV ho;refine Oh (listItems_at ho rfl ?_);refine Oh (OG ho rfl ?_ (by rw[EW,Oj];lia) (EU _));obtain⟨e1,ho1⟩:∃e1,(s.heap.update a (Fj λ_=>(#[]:Array Value))).get? a=some (seqObj "list" #[] e1):=⟨_,OE ho (λ_=>#[])⟩
 refine Oh (seqEpoch_at ho1 rfl ?_);refine Oh (wpAny_newTuple ?_ (by show vs.length<=_;rw[Oj];lia));refine Oh (wpAny_newList ?_ (EU _));refine Ox ?_;have ho6:(((s.heap.update a (Fj λ_=>(#[]:Array Value))).push (seqObj "tuple" vs.toArray 0)).push (seqObj "list" #[] 0)).get? a=some (seqObj "list" #[] e1):=by
  rw[GI _ _ _ (by rw[size_push',GO];exact Fc (GH ha)),GI _ _ _ (by rw[GO];exact Fc ha)];exact ho1
 have kp:∀b o,b≠a->s.heap.get? b=some o->(((s.heap.update a (Fj λ_=>(#[]:Array Value))).push (seqObj "tuple" vs.toArray 0)).push (seqObj "list" #[] 0)).get? b=some o:=λb o hb e=>by
  have hlt:=EV e;rw[GI _ _ _ (by rw[size_push',GO];exact Fc (GH hlt)),GI _ _ _ (by rw[GO];exact Fc hlt),Ka _ _ _ _ hb];exact e
 show wpAny (model prog w) A _ P E { s with heap:=((s.heap.update a (Fj λ_=>(#[]:Array Value))).push (seqObj "tuple" vs.toArray 0)).push (seqObj "list" #[] 0) }
 dsimp only;have hsz:vs.toArray.size=vs.length:=by simp
 by_cases h2:vs.toArray.size<2
 ·rw[if_pos h2,if_pos h2]
  refine Oh (Oi ?_);rw[LH];refine Oh (Oi ?_);dsimp only;refine Oh (seqEpoch_at ho6 rfl ?_);refine Oh (OG ho6 rfl ?_ (EU _) (by rw[Array.size_map];show(pairsOf vs).size<=_;rw[pairsOf_size,Oj];lia));simp only[bne_self_eq_false,FK,if_false];have:=h (EZ vs.length) (JN _) (mI _ ⋯);have eo:(arrOf (Ip general' (vs.toArray.zip vs.toArray) #[] 7 none)).map (·.2)=Fo ((EZ vs.length).map λi=>vs.getD i Ft):=by
   have e:=kas_range (vs.toArray.zip vs.toArray);rw[show(vs.toArray.zip vs.toArray).size=vs.length by simp]at e;have:=kat_snds (st:=Ip general' (vs.toArray.zip vs.toArray) #[] 7 none) (ks:=vs) (vs:=vs) rfl e.symm;simpa using this
  rw[<-eo]at this;exact Oi this
 ·rw[if_neg h2,if_neg h2]
  refine Oh (Om (hk _ (λκ' s'=>κ'=κ/\s'={ s with heap:=((s.heap.update a (Fj λ_=>(#[]:Array Value))).push (seqObj "tuple" vs.toArray 0)).push (seqObj "list" #[] 0) }) ⋯ kp ⟨rfl,rfl⟩) (λκ' s' hh=>?_) λ_ _ x=>x.elim);obtain⟨rfl,rfl⟩:=hh;refine Oh (Om (pX (ks:=vs) (I:=λs'=>s'={ s with heap:=((s.heap.update a (Fj λ_=>(#[]:Array Value))).push (seqObj "tuple" vs.toArray 0)).push (seqObj "list" #[] 0) }) rfl ⋯ H rfl (λi j s' hi hj es=>by subst es;exact hc _ i j _ hi hj kp ⟨rfl,rfl⟩)) ?_ λ_ _ e=>e);rintro⟨⟨⟩,st'⟩ s' ⟨p,har,hf,hp,rfl,q1,q2⟩;dsimp only;have hout:=kat_snds rfl har;rw[hout];refine Oh (seqEpoch_at ho6 rfl ?_);refine Oh (OG ho6 rfl ?_ (EU _) (by rw[EW,EE,FF,hp,Oj];lia));rw[hf];simp only[bne_self_eq_false,FK,if_false];exact Oi (h p.toList q1 q2)
theorem fU{vs:List Value}{κ:SortKind}{lt:Nat->Nat->Bool}{Q:Value->Shared->Prop}(hl:s.heap.IsList l vs.toArray)(h64:vs.length<64)(H:Lt lt)
  (hk:∀h' (Q:SortKind->Shared->Prop),2<=vs.length->(∀b o,s.heap.get? b=some o->h'.get? b=some o)->Q κ { s with heap:=h' }->wpAny (model prog w) A.in1.in1 (keyKind' vs.toArray) Q (λ_ _=>False) { s with heap:=h' })
  (hc:∀h' i j (Q:Bool->Shared->Prop),i<vs.length->j<vs.length->(∀b o,s.heap.get? b=some o->h'.get? b=some o)->Q (lt i j) { s with heap:=h' }->
   wpAny (model prog w) A.in1.in1 (keyLt' κ (vs.getD i Ft) (vs.getD j Ft)) Q (λ_ _=>False) { s with heap:=h' })
  (h:∀p:List Nat,p.Perm (EZ vs.length)->p.Pairwise (Ah lt)->Q (.ref (s.heap.objs.size+1)) { s with heap:=sortedAll s.heap vs (Fo (p.map λi=>vs.getD i Ft)) }) :
  wpAny (model prog w) A (call (.builtin "sorted") [.ref l]) Q E s:=by
 refine Calls.call_function_entry kind_sorted plain_sorted entry_sorted (args_sorted1 _) ?_;unfold Builtin.«sorted»;refine Oh (m:=checkCount "sorted" 1 1 _) (Oi ?_);refine Oh (collect_list hl ?_ (by rw[Oj];lia));refine Oh (wpAny_newList ?_ (by rw[Oj];lia));have hsz:((s.heap.push (seqObj "list" #[] 0)).update s.heap.objs.size (Fj (·++vs.toArray))).objs.size=s.heap.objs.size+1:=by
  rw[GO,size_push']
 have hoL:(((s.heap.push (seqObj "list" #[] 0)).update s.heap.objs.size (Fj (·++vs.toArray))).push (seqObj "list" vs.toArray 0)).get? (s.heap.objs.size+1)=some (seqObj "list" vs.toArray 0):=by
  rw[<-hsz];exact E5 _ rfl
 have keep:∀b o,s.heap.get? b=some o->(((s.heap.push (seqObj "list" #[] 0)).update s.heap.objs.size (Fj (·++vs.toArray))).push (seqObj "list" vs.toArray 0)).get? b=some o:=λb o q=>by
  have hlt:b<s.heap.objs.size:=EV q;rw[GI _ _ _ (by rw[hsz];exact Fc (GH hlt)),Ka _ _ _ _ (Fc hlt),GI _ _ _ (Fc hlt)];exact q
 have ne:∀b o,s.heap.get? b=some o->b≠s.heap.objs.size+1:=λb o q=>Fc (GH (EV q))
 show wpAny _ _ _ _ _ { s with heap:=((s.heap.push (seqObj "list" #[] 0)).update s.heap.objs.size (Fj (·++vs.toArray))).push (seqObj "list" vs.toArray 0) }
 rw[hsz];refine Oh (Ox (wpAny_call_entry slot_list_sort ⟨_,hoL,rfl⟩ entry_list_sort (ju hoL h64 H
  (λh' Q' h2 k q=>hk h' Q' h2 (λb o e=>k b o (ne b o e) (keep b o e)) q) (λh' i j Q' hi hj k q=>hc h' i j Q' hi hj (λb o e=>k b o (ne b o e) (keep b o e)) q) λp a1 a2=>⟨_,rfl,?_⟩) (args_list_sort _)))
 exact Oi ⟨_,rfl,h p a1 a2⟩
theorem jv{fin:Bool}{Q:Bool->Shared->Prop}:∀{xs ys:List Value}{ns ms:List Int},Ou xs ns->Ou ys ms->∀(i:Nat) (b:Bool),fin=decide (ns.length<ms.length)->Q (bH ns ms) s->
  KatLex prog w A b fin Q (xs.zip ys) i s
 | _,_,_,_,.nil,.nil,i,b,e,h=>by subst e;exact h
 | _,_,_,_,.nil,.cons m u r,i,b,e,h=>by
  subst e;rw[KQ];refine kat_nil ?_;simpa using(show Q true s from h)
 | _,_,_,_,.cons n t r,.nil,i,b,e,h=>by
  subst e;rw[Km];refine kat_nil ?_;simpa using(show Q false s from h)
 | _,_,_,_,.cons n t r,.cons m u r',i,b,e,h=>by
  rw[GC];refine kat_cons (wpAny_eqBool_int ?_);rw[aW]at h;by_cases hn:n=m
  ·rw[if_pos hn]at h
   rw[show(n == m)=true by simp[hn]];exact kat_yes (jv r r' (i+1) b (by rw[e];simp) h)
  ·rw[if_neg hn]at h
   rw[show(n == m)=false by simp[hn]];refine kat_no ?_;cases(b && i == 0)with
   | true=>exact oneLt_int h
   | false=>exact kat_one _ _ (lt_int h)
theorem mJ{x y:Addr}{its its2:Array Value}{ns ms:List Int}{b:Bool}{Q:Bool->Shared->Prop}(hx:IsTup s.heap x its)(hy:IsTup s.heap y its2)(hi:Ou its.toList ns)(hj:Ou its2.toList ms)(h:Q (bH ns ms) s):
  wpAny (model prog w) A (keyLt' (tuples' b) (.ref x) (.ref y)) Q E s:=by
 obtain⟨o,ho,hc,n,hd⟩:=id hx;obtain⟨o2,ho2,hc2,n2,hd2⟩:=id hy;refine kat_lt ho hd ho2 hd2 (jv hi hj 0 b ?_ h);rw[<-hi.length,<-hj.length];simp
theorem pY{x y:Addr}{its its2:Array Value}{ns ms:List Int}{Q:Bool->Shared->Prop}(hu:A.units<cLine)(hx:IsTup s.heap x its)(hy:IsTup s.heap y its2)(hi:Ou its.toList ns)(hj:Ou its2.toList ms)(h:Q (bH ns ms) s):
  wpAny (model prog w) A (keyLt' oneType' (.ref x) (.ref y)) Q E s:=by
 obtain⟨⟨cls,dd,data,sl⟩,ho,hc,n,hd⟩:=id hx;obtain⟨⟨cls2,dd2,data2,sl2⟩,ho2,hc2,n2,hd2⟩:=id hy;simp only at hc hd hc2 hd2;subst hc hd hc2 hd2;rw[keyLt'_oneType,oneLt'_eq];simp only[if_true];refine Oh (wpAny_cRoomFor hu ?_);refine Oh (wpAny_callSpecialIfBound?_slot (T:="tuple") ⟨_,ho,rfl⟩ JO (OB JO ⟨_,ho,rfl⟩ PySem.F.entry_tuple_lt (PySem.F.args_tuple_lt_2 _ _) (je x y its its2 n n2 dd dd2 sl sl2 ns ms hi hj) ⟨ho,ho2,?_⟩));exact Os h
theorem mK{vs:List Value}{Q:SortKind->Shared->Prop}(h2:2<=vs.length)(ht:∀v∈vs,∃a,v=.ref a/\IsTup s.heap a #[])(h:Q oneType' s):
  wpAny (model prog w) A (keyKind' vs.toArray) Q E s:=by
 obtain⟨v₁,dm,rfl⟩:∃v₁ dm,vs=v₁::dm:=by
  match vs,h2 with
  | v₁::dm,_=>exact⟨v₁,dm,rfl⟩
 rw[kat_kind_eq,KY,map_eq_pure_bind];refine Oh (Oh (kas_mapM (r:=none) _ (λv hv Q' hq=>?_) (Oi ?_)))
 ·obtain⟨a,rfl,o,ho,hc,n,hd⟩:=ht v hv
  rw[kas_first_eq];refine Oh (Looks.here (show Looks (model prog w) s.heap (typeOf (.ref a)) o.cls from(Looks.ld ho).andThen .now) ?_);rw[hc,if_neg (by first|decide|simp)];refine Oh (listItems_at ho hd (Oi ?_));exact hq
 ·rw[if_neg (by simp),if_neg (by simp)]
  rw[oneTypeOnly'_eq,KY,map_eq_pure_bind];refine Oh (Oh (Oh (kas_mapM (r:=Gh "tuple") _ (λv hv Q' hq=>?_) (Oi ?_))))
  ·obtain⟨a,rfl,o,ho,hc,n,hd⟩:=ht v hv
   refine Looks.here (show Looks (model prog w) s.heap (typeOf (.ref a)) (Gh "tuple")from ?_) hq;rw[<-hc];exact(Looks.ld ho).andThen .now
  ·have hall:((Li (λ_=>Gh "tuple") (v₁::dm)).toArray.all λx=>x == Gh "tuple")=true:=by
    simp only[List.all_toArray,MM,F4];intro _ _;rfl
   have h0:(Li (λ_=>Gh "tuple") (v₁::dm)).toArray[0]? = some (Gh "tuple"):=by simp
   rw[h0];simp only[hall,if_true];exact Oi (Oi h)
theorem pZ:∀{vs:List Value}{rss:List (List Int)},vs.length=rss.length->(∀(i:Nat) v r,vs[i]? = some v->rss[i]? = some r->∃a its,v=.ref a/\IsTup s.heap a its/\Ou its.toList r)->(∀r∈rss,r≠[])->
  ∃fs,KatTups s.heap vs fs/\fs.length=vs.length/\∀f∈fs,∃n t,f=G9 n t
 | [],[],_,_,_=>⟨[],.nil,rfl,λ_ h=>nomatch h⟩
 | v::vs,r::rss,hl,h,hne=>by
  obtain⟨fs,k1,k2,k3⟩:=pZ (vs:=vs) (rss:=rss) (by simpa using hl) (λi v r e1 e2=>h (i+1) v r (by simpa using e1) (by simpa using e2)) λr hr=>hne r (.tail _ hr)
  obtain⟨a,its,rfl,⟨o,ho,hc,n,hd⟩,hi⟩:=h 0 v r rfl rfl;have hr:=hne r (.head _);obtain⟨its'⟩:=its;cases hi with
  | nil=>exact absurd rfl hr
  | cons m t hi'=>exact⟨_::fs,KatTups.cons (f:=.int m t) ho hc hd (by simp) k1,by simp[k2],λf hf=>(EO.mp hf).elim (λe=>⟨m,t,e⟩) (k3 f)⟩
theorem kj{vs:List Value}{rss:List (List Int)}{Q:SortKind->Shared->Prop}(h2:2<=vs.length)(hl:vs.length=rss.length)(ht:∀(i:Nat) v r,vs[i]? = some v->rss[i]? = some r->∃a its,v=.ref a/\IsTup s.heap a its/\Ou its.toList r)(hne:∀r∈rss,r≠[])
  (h:Q (tuples' true) s):wpAny (model prog w) A (keyKind' vs.toArray) Q E s:=by
 obtain⟨fs,k1,k2,k3⟩:=pZ hl ht hne;refine kat_kind (T:=Gh "int") k1 ⋯ (λv hv=>?_) rfl h;obtain⟨n,t,rfl⟩:=k3 v hv;exact Looks.of_pure rfl
end
theorem i0(a:List Int):∀b,bH a b=true->bH b a=false:=by
 induction a with
 | nil=>intro b h;cases b<;>first|rfl|cases h
 | cons x xs ih=>
  intro b h;cases b with
  | nil=>cases h
  | cons y ys=>
   rw[aW]at h ⊢;by_cases e:x=y
   ·rw[if_pos e]at h;rw[if_pos e.symm];exact ih ys h
   ·rw[if_neg e]at h;rw[if_neg (E7 e)]
    have:=of_decide_eq_true h;exact decide_eq_false ⋯
theorem kl(a:List Int):∀b c,bH a b=false->bH b c=false->bH a c=false:=by
 induction a with
 | nil=>
  intro b c h1 h2;cases b with
  | nil=>exact h2
  | cons y ys=>cases h1
 | cons x xs ih=>
  intro b c h1 h2;cases c with
  | nil=>rfl
  | cons z zs=>
   cases b with
   | nil=>cases h2
   | cons y ys=>
    rw[aW]at h1 h2 ⊢;by_cases e:x=y
    ·subst e
     rw[if_pos rfl]at h1;by_cases e2:x=z
     ·subst e2;rw[if_pos rfl]at h2 ⊢;exact ih ys zs h1 h2
     ·rw[if_neg e2]at h2 ⊢;exact h2
    ·rw[if_neg e]at h1
     have h1:=of_decide_eq_false h1;by_cases e2:y=z
     ·subst e2;rw[if_neg e];exact decide_eq_false h1
     ·rw[if_neg e2]at h2
      have h2:=of_decide_eq_false h2;rw[if_neg ⋯];exact decide_eq_false ⋯
theorem p0(rss:List (List Int)):Lt (λi j=>bH (rss.getD i []) (rss.getD j [])):=⟨λi j h=>i0 _ _ h,λi j k h1 h2=>kl _ _ _ h1 h2⟩
end HT
namespace L2
open PySem PySem.Spec PyProof.Rows PySem.W
section
variable{X:Cx}
theorem fA:∀{rs:List Addr}{us:List Value},Vals (rs.map Oa) us->us=rs.map Fi
 | [],_,.nil=>rfl
 | _::_,_,.cons r t=>by
  rw[Fw,<-fA t];cases r;rfl
theorem gA{f:Nat->V}{g:Nat->Value}:∀{p:List Nat},(∀i∈p,RelV (f i) (g i))->Vals (p.map f) (p.map g)
 | [],_=>.nil
 | i::p,h=>.cons (h i (.head _)) (gA λj hj=>h j (.tail _ hj))
def u4(K:EG):List V->Hp->VK->Prop:=λxs H Q=>∃(l:Addr) (rs:List Addr) (rss:List (List Int)),xs=[.ref l]/\SqL K H l (rs.map Oa)/\rs.length=rss.length/\rs.length<64/\
 (∀(i:Nat) a r,rs[i]? = some a->rss[i]? = some r->SqT K H a (r.map N7))/\((∀r∈rss,r=[])\/(∀r∈rss,r≠[]))/\
 ∀(d:Addr) (p:List Nat),H d=none->p.Perm (EZ rs.length)->p.Pairwise (Ah λi j=>HT.bH (rss.getD i []) (rss.getD j []))->Q (.ref d) (upd H d (.lst (p.map λi=>.ref (rs.getD i 0))))
theorem nV (hu:X.A.in1.in1.units<cLine):cb X (.builtin "sorted") (u4 X.K):=by
 intro pins s σ H xs us Q I r h;obtain⟨l,rs,rss,rfl,hq,hlen,h64,ht,hw,q⟩:=h;obtain⟨u,rfl,rx⟩:=cG r;cases rx;obtain⟨its,r',pl,hz⟩:=I.list hq;obtain rfl:=fA r';have hl:(rs.map Fi).length=rs.length:=EE _;have tup:∀(h':Heap),(∀b o,s.heap.get? b=some o->h'.get? b=some o)->∀(i:Nat) v r,(rs.map Fi)[i]? = some v->rss[i]? = some r->∃a its,v=.ref a/\IsTup h' a its/\Ou its.toList r:=λh' k i v r e1 e2=>by
  rw[EN]at e1;obtain⟨a,ea,rfl⟩:=FJ.mp e1;obtain⟨its,r1,⟨o,ho,hc⟩,_⟩:=I.tuple (ht i a r ea e2);exact⟨a,its.toArray,rfl,⟨o,k _ _ ho,hc⟩,ck r1⟩
 have get:∀i,i<(rs.map Fi).length->(rs.map Fi)[i]? = some ((rs.map Fi).getD i Ft)/\rss[i]? = some (rss.getD i []):=λi hi=>by
  have h2:i<rss.length:=by lia
  constructor
  ·rw[EH,EF hi];rfl
  ·rw[EH,EF h2];rfl
 have fin:∀p:List Nat,p.Perm (EZ (rs.map Fi).length)->p.Pairwise (Ah λi j=>HT.bH (rss.getD i []) (rss.getD j []))->
   EP X pins σ Q (.ref (s.heap.objs.size+1)) { s with heap:=sortedAll s.heap (rs.map Fi) (Fo (p.map λi=>(rs.map Fi).getD i Ft)) }:=λp hp hs=>by
  obtain⟨c,hc⟩:=sortedAll_at s.heap (rs.map Fi) (Fo (p.map λi=>(rs.map Fi).getD i Ft));have hpl:=hp.length_eq;rw[Fz,hl]at hpl;rw[hl]at hp;refine⟨.ref (s.heap.objs.size+1),_,I.laid (t':=s.toks) (λb o e=>sortedAll_old e) (Hh _) (show ObjOk X.prog X.w _ _ _ (.lst (p.map λi=>.ref (rs.getD i 0)))from⟨?_,_,c,gA λi hi=>?_,hc⟩),rfl,q _ p (I.hok.fresh (Hh _)) hp hs⟩
  ·rw[EE,hpl,Oj];lia
  ·have hi':i<rs.length:=FE.mp (hp.mem_iff.mp hi)
   rw[EH,EH,EN,EF hi'];rfl
 rcases hw with hw|hw
 ·refine HT.fU (κ:=oneType') pl.isList ⋯ (HT.p0 rss) (λh' Q' h2 k hQ=>HT.mK h2 (λv hv=>?_) hQ) (λh' i j Q' hi hj k hQ=>?_) fin
  ·obtain⟨i,hi,ei⟩:=F9 hv
   obtain⟨g1,g2⟩:=get i hi;obtain⟨a,its,rfl,t,ti⟩:=tup h' k i v _ (by rw[EF hi,ei]) g2;rw[hw _ (ES g2)]at ti;obtain⟨its'⟩:=its;cases ti;exact⟨a,rfl,t⟩
  ·obtain⟨g1,g2⟩:=get i hi
   obtain⟨k1,k2⟩:=get j hj;obtain⟨a,its,e,t,ti⟩:=tup h' k i _ _ g1 g2;obtain⟨a',its',e',t',ti'⟩:=tup h' k j _ _ k1 k2;rw[e,e'];exact HT.pY hu t t' ti ti' hQ
 ·refine HT.fU (κ:=tuples' true) pl.isList ⋯ (HT.p0 rss) (λh' Q' h2 k hQ=>HT.kj h2 ⋯ (tup h' k) hw hQ) (λh' i j Q' hi hj k hQ=>?_) fin
  obtain⟨g1,g2⟩:=get i hi;obtain⟨k1,k2⟩:=get j hj;obtain⟨a,its,e,t,ti⟩:=tup h' k i _ _ g1 g2;obtain⟨a',its',e',t',ti'⟩:=tup h' k j _ _ k1 k2;rw[e,e'];exact HT.mJ t t' ti ti' hQ
end
section
variable{X:Cx}
end
end L2
namespace HT
open PySem PyProof.Rows PySem.W L2
section
variable{prog:Program}{w:World}{A:Around}{E:Value->Shared->Prop}{s:Shared}
end
theorem xl(ns:List Int):Lt (λi j=>decide (ns.getD i 0<ns.getD j 0)):=⟨λi j h=>by
 have:=of_decide_eq_true h;exact decide_eq_false ⋯,λi j k h1 h2=>by
 have a:=of_decide_eq_false h1;have b:=of_decide_eq_false h2;exact decide_eq_false ⋯⟩
theorem lA{vs:List Value}{ns:List Int}(h:Ou vs ns):∀{i:Nat},i<vs.length->∃t,vs.getD i Ft=.int (ns.getD i 0) t:=by
 induction h with
 | nil=>intro i hi;cases hi
 | cons n t h ih=>
  intro i hi;cases i with
  | zero=>exact⟨t,rfl⟩
  | succ i=>
   obtain⟨t',e⟩:=ih (i:=i) (by simpa using hi);exact⟨t',by simpa using e⟩
end HT
namespace L2
open PySem PySem.Spec PyProof.Rows PySem.W
section
variable{X:Cx}
end
end L2
namespace L2
open PySem PySem.Spec PyProof.Rows
def Ag(x:V)(d:PyData):Prop:=(x=.non/\d=.none)\/(∃b,x=.bl b/\d=.bool b)\/(∃i:Int,x=.int i/\d=.int i/\i.natAbs<10 ^ 22)\/(∃y,x=.str y/\d=.str y/\(Nl y).showable=true/\FV 25 (.str y)=true)
theorem nW{x:V}{d:PyData}(h:Ag x d)(n:Nat):d.showable=true/\d.hasDict=false/\d.depth<=n/\FV 25 d=true:=by
 rcases h with⟨rfl,rfl⟩|⟨b,rfl,rfl⟩|⟨i,rfl,rfl,hi⟩|⟨y,rfl,rfl,h1,h2⟩
 ·exact⟨rfl,rfl,EU _,by decide +kernel⟩
 ·exact⟨rfl,rfl,EU _,by cases b<;>decide +kernel⟩
 ·refine⟨?_,rfl,EU _,?_⟩
  ·unfold JB
   refine decide_eq_true ?_;by_cases h0:i.natAbs=0
   ·rw[h0];decide
   ·have:i.natAbs<2 ^ 80:=GN hi (by decide)
    have:=(JI h0).mpr this;lia
  ·unfold FV
   refine decide_eq_true ?_;have e:=int_text_length_le10 (k:=22) (by decide) hi;show(Fy (toString i)).length<=25
   rw[PySem.ofString_length];exact FB e (by decide)
 ·exact⟨h1,rfl,EU _,h2⟩
noncomputable def DatM:Nat->Hp->V->PyData->Prop
 | 0,_,x,d=>Ag x d
 | n+1,H,x,d=>Ag x d\/(∃a xs ds,x=.ref a/\d=.list ds/\H a=some (.lst xs)/\xs.length=ds.length/\∀(i:Nat) u e,xs[i]? = some u->ds[i]? = some e->DatM n H u e)\/
  (∃a xs ds,x=.ref a/\d=.tuple ds/\H a=some (.tup xs)/\xs.length=ds.length/\∀(i:Nat) u e,xs[i]? = some u->ds[i]? = some e->DatM n H u e)
theorem DatM.facts{H:Hp}:∀{n:Nat}{x:V}{d:PyData},DatM n H x d->d.showable=true/\d.hasDict=false/\d.depth<=n/\FV 25 d=true
 | n,x,d,h=>by
  have hint:Ag x d->d.showable=true/\d.hasDict=false/\d.depth<=n/\FV 25 d=true:=by
   intro h;exact nW h n
  match n,h with
  | 0,h=>exact hint h
  | n+1,h=>
   rcases h with h|⟨a,xs,ds,rfl,rfl,ha,hl,hi⟩|⟨a,xs,ds,rfl,rfl,ha,hl,hi⟩
   ·exact hint h
   ·have hd:∀d∈ds,d.showable=true/\d.hasDict=false/\d.depth<=n/\FV 25 d=true:=λd hd=>by
     obtain⟨i,e⟩:=Gm hd;have hlt:=cE e;exact DatM.facts (hi i (xs[i]'⋯) d (EF _) e)
    exact⟨gW (P:=JB) (PA:=Kt) rfl (λ_ _=>rfl) λd h=>(hd d h).1,dA λd h=>(hd d h).2.1,He (cK λd h=>(hd d h).2.2.1),gW (P:=FV 25) (PA:=JP 25) rfl (λ_ _=>rfl) λd h=>(hd d h).2.2.2⟩
   ·have hd:∀d∈ds,d.showable=true/\d.hasDict=false/\d.depth<=n/\FV 25 d=true:=λd hd=>by
     obtain⟨i,e⟩:=Gm hd;have hlt:=cE e;exact DatM.facts (hi i (xs[i]'⋯) d (EF _) e)
    exact⟨gW (P:=JB) (PA:=Kt) rfl (λ_ _=>rfl) λd h=>(hd d h).1,dA λd h=>(hd d h).2.1,He (cK λd h=>(hd d h).2.2.1),gW (P:=FV 25) (PA:=JP 25) rfl (λ_ _=>rfl) λd h=>(hd d h).2.2.2⟩
section
variable{X:Cx}{pins:List (Addr×Obj)}{σ:St}{H:Hp}{s:Shared}
theorem DatM.reads(I:Inv X pins σ H s):∀{n:Nat}{x:V}{d:PyData}{v:Value},DatM n H x d->RelV x v->∃as,Reads s.heap v d as
 | n,x,d,v,h,r=>by
  have hint:Ag x d->∃as,Reads s.heap v d as:=by
   rintro(⟨rfl,rfl⟩|⟨b,rfl,rfl⟩|⟨i,rfl,rfl,_⟩|⟨y,rfl,rfl,_⟩)
   ·cases r;exact⟨_,.none⟩
   ·cases r;exact⟨_,.bool b⟩
   ·obtain⟨t,rfl⟩:=r;exact⟨_,.int i t⟩
   ·obtain⟨t,rfl⟩:=r;exact⟨_,.str y t⟩
  match n,h with
  | 0,h=>exact hint h
  | n+1,h=>
   rcases h with h|⟨a,xs,ds,rfl,rfl,ha,hl,hi⟩|⟨a,xs,ds,rfl,rfl,ha,hl,hi⟩
   ·exact hint h
   ·cases r
    obtain⟨its,m,rv,ho,hz⟩:=I.lst ha;obtain⟨as,h1⟩:=cL (R:=DatM n H) (λx v d h r=>DatM.reads I h r) rv hl hi;exact⟨_,.list ho rfl rfl (by simpa using h1)⟩
   ·cases r
    obtain⟨its,rv,⟨ob,ho,hc,m,hd⟩,hz⟩:=I.tuple (N6 ha);obtain⟨as,h1⟩:=cL (R:=DatM n H) (λx v d h r=>DatM.reads I h r) rv hl hi;exact⟨_,.tuple ho hc hd (by simpa using h1)⟩
def CK:List V->Hp->VK->Prop:=λxs H Q=>∃(a:Addr) (d:PyData),xs=[.ref a]/\DatM 3 H (.ref a) d/\d.weight<=2 ^ 19/\Q (.str d.shown) H
theorem xm (hg:X.A.guards=some []) (hu:X.A.units+64<cLine):cb X (.type "str") CK:=by
 intro pins s σ H xs us Q I r h;obtain⟨a,d,rfl,hd,hw,q⟩:=h;obtain⟨u,rfl,ru⟩:=cG r;obtain⟨as,h1⟩:=hd.reads I ru;cases ru;obtain⟨f1,f2,f3,f4⟩:=hd.facts;refine str_of_reads h1 f1 (λz=>by rw[f2]at z;cases z) hg ⋯ (λb o e=>e) (λh' u tk hk=>?_) (by
  have h:=PyData.shown_le 25 (by decide) d f4;have e:(2:Nat) ^ 19=524288:=by decide
  have h2:(25+2)*d.weight<=27*524288:=LW ⋯ ⋯;rw[Oj];lia)
 exact⟨.str d.shown,H,I.kept hk,⟨u,rfl⟩,q⟩
end
section
variable{κ:Type}[DecidableEq κ]
end
section
variable{P:Program}{w:World}{H:Hp}{h:Heap}{a:Addr}
end
section
variable{X:Cx}{pins:List (Addr×Obj)}{σ:St}{H:Hp}{s:Shared}{a:Addr}{y v:V}{u r:Value}{o:Option V}{A:Around}{E:Value->Shared->Prop}
end
section
variable{X:Cx}{pins:List (Addr×Obj)}{σ:St}{H:Hp}{s:Shared}{a:Addr}{kvs:List (Key×V)}{k:Key}{u:Value}{A:Around}{E:Value->Shared->Prop}
end
section
variable{X:Cx}{o i e value:Expr}{pos pos' tpos:Pos}{td ty tv:TE}
end
section
variable{X:Cx}{pos:Pos}
end
section
variable{X:Cx}{pins:List (Addr×Obj)}{σ:St}{H:Hp}{s:Shared}{a:Addr}{y d:V}{u r:Value}{o:Option V}{A:Around}{E:Value->Shared->Prop}
end
section
variable{X:Cx}{o e f:Expr}{apos cpos:Pos}{td ty tx:TE}
end
section
variable{X:Cx}{pins:List (Addr×Obj)}{σ:St}{H:Hp}{s:Shared}{a:Addr}{kvs:List (Key×V)}{A:Around}{E:Value->Shared->Prop}
end
section
variable{X:Cx}{pins:List (Addr×Obj)}{σ:St}{H:Hp}{s:Shared}{a:Addr}{y:V}{u:Value}{A:Around}{E:Value->Shared->Prop}
end
section
variable{X:Cx}{o i value:Expr}{td ty tv:TE}{pos pos':Pos}
end
noncomputable def itN(os:List Nat):Nat->Nat->Nat
 | 0,i=>i
 | k+1,i=>os.getD (itN os k i) 0
theorem dB(os:List Nat)(a:Nat):∀(b i:Nat),itN os (a+b) i=itN os b (itN os a i)
 | 0,i=>rfl
 | b+1,i=>by show os.getD (itN os (a+b) i) 0=os.getD (itN os b (itN os a i)) 0;rw[dB os a b i]
theorem Ord.nx{os:List Nat}(h:Ord os n)(hi:i<n):os[i]? = some (os.getD i 0)/\os.getD i 0<n:=by
 obtain⟨r,e,hr⟩:=h.get hi;have:os.getD i 0=r:=by rw[EH,e];rfl
 rw[this];exact⟨e,hr⟩
theorem Ord.nx_inj{os:List Nat}(h:Ord os n)(hi:i<n)(hj:j<n)(e:os.getD i 0=os.getD j 0):i=j:=by
 have a:=(h.nx hi).1;have b:=(h.nx hj).1;rw[e]at a;exact h.inj i j _ a b
theorem dG{os:List Nat}{n:Nat}(h:Ord os n):∀(k:Nat){i:Nat},i<n->itN os k i<n
 | 0,i,hi=>hi
 | k+1,i,hi=>(h.nx (dG h k hi)).2
theorem lB{os:List Nat}{n:Nat}(h:Ord os n):∀(k:Nat){i j:Nat},i<n->j<n->itN os k i=itN os k j->i=j
 | 0,i,j,_,_,e=>e
 | k+1,i,j,hi,hj,e=>lB h k hi hj (h.nx_inj (dG h k hi) (dG h k hj) e)
theorem nX{os:List Nat}(h:Ord os n)(hi:i<n):∃m,0<m/\itN os m i=i:=by
 apply Jb;intro hno;have hne:∀p q,p<q->itN os p i≠itN os q i:=λp q hpq e=>by
  refine hno ⟨q - p,by lia,?_⟩;have e2:itN os q i=itN os p (itN os (q - p) i):=by rw[<-dB];congr 1;lia
  rw[e2]at e;exact(lB h p hi (dG h _ hi) e).symm
 have hnd:((EZ (n+1)).map λk=>itN os k i).Nodup:=by
  rw[Hg,IZ];exact List.pairwise_lt_range.imp λ{a b} hab=>hne a b hab
 have hp:=kh (ys:=EZ n) hnd (λx hx=>by
  obtain⟨k,_,rfl⟩:=E1.mp hx;exact FE.mpr (dG h k hi)) (by simp)
 have:=hp.length_eq;simp at this
def Rb(os:List Nat)(i j:Nat):Prop:=∃k,j=itN os k i
theorem Rb.symm{os:List Nat}(h:Ord os n)(hi:i<n)(r:Rb os i j):Rb os j i:=by
 obtain⟨k,rfl⟩:=r;obtain⟨m,hm,e⟩:=nX h hi;have all:∀t,itN os (m*t) i=i:=λt=>by
  induction t with
  | zero=>rfl
  | succ t ih=>rw[MN,dB,ih,e]
 have hk:k<=m*k:=JJ k hm;refine⟨m*k - k,?_⟩;rw[<-dB,show k+(m*k - k)=m*k by lia,all]
theorem Rb.trans{os:List Nat}{l:Nat}(a:Rb os i j)(b:Rb os j l):Rb os i l:=by
 obtain⟨k,rfl⟩:=a;obtain⟨k',rfl⟩:=b;exact⟨k+k',(dB os k k' i).symm⟩
def El(os:List Nat)(a:Nat):Prop:=os.getD a 0≠a/\∀a',a'<a->¬Rb os a' a
noncomputable def sm(f:Nat->Nat):Nat->Nat
 | 0=>0
 | n+1=>sm f n+f n
theorem gB{f g:Nat->Nat}:∀{n:Nat},(∀j,j<n->g j=f j)->sm g n=sm f n
 | 0,_=>rfl
 | n+1,h=>by show sm g n+g n=sm f n+f n;rw[gB λj hj=>h j ⋯,h n ⋯]
theorem u5{f g:Nat->Nat}{pl:Nat}(h:∀j,j≠pl->g j=f j):∀{n:Nat},pl<n->sm g n+f pl=sm f n+g pl
 | n+1,hn=>by
  show sm g n+g n+f pl=sm f n+f n+g pl
  rcases FI pl n with hl|hl
  ·have:=u5 h hl
   have:=h n ⋯;lia
  ·have e:pl=n:=by lia
   subst e;have:=gB (n:=pl) λj hj=>h j ⋯
   lia
noncomputable def wt(os:List Nat)(j:Nat):Nat:=if os.getD j 0=j then 0 else 1
noncomputable def mf(os:List Nat)(met:List Bool)(j:Nat):Nat:=if met.getD j false=true then wt os j else 0
theorem gZ{met:List Bool}(h:¬met.getD pl true=true):pl<met.length/\met[pl]? = some false/\met.getD pl false=false:=by
 rw[EH]at h;cases e:met[pl]? with
 | none=>rw[e]at h;exact absurd rfl h
 | some b=>
  rw[e]at h;cases b with
  | true=>exact absurd rfl h
  | false=>exact⟨cE e,rfl,by rw[EH,e];rfl⟩
theorem cw{met:List Bool}(hl:pl<met.length):(met.set pl true).getD j false=if j=pl then true else met.getD j false:=by
 rw[EH,G4,EH];by_cases e:pl=j
 ·subst e;rw[if_pos rfl,if_pos rfl,if_pos hl];rfl
 ·rw[if_neg e,if_neg (E7 e)]
theorem p6{os:List Nat}:∀(f:Nat) (met:List Bool) (pl:Nat),sm (mf os (cg os f met pl).2) met.length=sm (mf os met) met.length+((cg os f met pl).1.map (wt os)).sum
 | 0,met,pl=>by simp[cg]
 | f+1,met,pl=>by
  unfold cg;split
  ·simp
  ·rename_i h
   obtain⟨hl,e1,e2⟩:=gZ h;have ih:=p6 (os:=os) f (met.set pl true) (os.getD pl 0);rw[Ij]at ih;have u:=u5 (f:=mf os met) (g:=mf os (met.set pl true)) (pl:=pl) (λj hj=>by unfold mf;rw[cw hl,if_neg hj]) hl;have a:mf os met pl=0:=by unfold mf;rw[e2];rfl
   have b:mf os (met.set pl true) pl=wt os pl:=by unfold mf;rw[cw hl,if_pos rfl];rfl
   rw[a,b]at u;show sm (mf os (cg os f (met.set pl true) (os.getD pl 0)).2) met.length=_+((pl::(cg os f (met.set pl true) (os.getD pl 0)).1).map (wt os)).sum
   rw[ih,Fw,HV];lia
theorem mL{os:List Nat}:∀(f:Nat) (met:List Bool) (pl:Nat),∀x∈(cg os f met pl).1,Rb os pl x
 | 0,met,pl,x,h=>by cases h
 | f+1,met,pl,x,h=>by
  unfold cg at h;split at h
  ·cases h
  ·rcases EO.mp h with e|h
   ·exact⟨0,e⟩
   ·obtain⟨k,e⟩:=mL f _ _ x h
    exact⟨1+k,by rw[dB];exact e⟩
theorem g5{os:List Nat}:∀(f:Nat) (met:List Bool) (pl j:Nat),met.getD j false=true->(cg os f met pl).2.getD j false=true
 | 0,met,pl,j,h=>h
 | f+1,met,pl,j,h=>by
  unfold cg;split
  ·exact h
  ·rename_i h'
   obtain⟨hl,_,_⟩:=gZ h';refine g5 f _ _ j ?_;rw[cw hl];split
   ·rfl
   ·exact h
theorem km{os:List Nat}:∀(f:Nat) (met:List Bool) (pl j:Nat),(cg os f met pl).2.getD j false=true->met.getD j false=true\/j∈(cg os f met pl).1
 | 0,met,pl,j,h=>.inl h
 | f+1,met,pl,j,h=>by
  unfold cg at h ⊢;split at h
  ·rename_i h';rw[if_pos h'];exact .inl h
  ·rename_i h'
   rw[if_neg h'];obtain⟨hl,_,_⟩:=gZ h';rcases km f _ _ j h with a|a
   ·rw[cw hl]at a
    split at a
    ·rename_i e;exact .inr (by rw[e];exact .head _)
    ·exact .inl a
   ·exact .inr (.tail _ a)
theorem g6{os:List Nat}{n:Nat}(h:Ord os n):∀(f:Nat) (met:List Bool) (pl:Nat),met.length=n->pl<n->few met<f->(∀j,j<n->met.getD j false=true->met.getD (os.getD j 0) false=true\/os.getD j 0=pl)->
  ∀j,j<n->(cg os f met pl).2.getD j false=true->(cg os f met pl).2.getD (os.getD j 0) false=true
 | 0,met,pl,_,_,hf,_=>by lia
 | f+1,met,pl,hl,hp,hf,hc=>by
  intro j hj;unfold cg;split
  ·rename_i h'
   intro hm;rcases hc j hj hm with a|a
   ·exact a
   ·rw[a]
    have:pl<met.length:=by lia
    rw[EH,EF this]at h' ⊢;exact h'
  ·rename_i h'
   obtain⟨hl',e1,_⟩:=gZ h';have hfew:=pL e1;refine g6 h f _ _ (by rw[Ij];exact hl) (h.nx hp).2 ⋯ (λj' hj' hm=>?_) j hj;rw[cw hl']at hm;rw[cw hl'];split at hm
   ·rename_i e;rw[e];exact .inr rfl
   ·rcases hc j' hj' hm with a|a
    ·refine .inl ?_
     split
     ·rfl
     ·exact a
    ·rw[if_pos a];exact .inl rfl
theorem CL{os:List Nat}(h:Ord os n)(hj:j<n):wt os (os.getD j 0)=wt os j:=by
 unfold wt;by_cases e:os.getD j 0=j
 ·rw[if_pos e,e,if_pos e]
 ·rw[if_neg e,if_neg λz=>e (h.nx_inj (h.nx hj).2 hj z)]
theorem xn{os:List Nat}(h:Ord os n)(hi:i<n)(r:Rb os i j):wt os j=wt os i:=by
 obtain⟨k,rfl⟩:=r
 induction k with
 | zero=>rfl
 | succ k ih=>show wt os (os.getD (itN os k i) 0)=_;rw[CL h (dG h k hi),ih]
theorem g7{os:List Nat}{n i:Nat}{met:List Bool}(h:Ord os n)(hc:∀j,j<n->met.getD j false=true->met.getD (os.getD j 0) false=true)(hi:i<n)(hm:met.getD i false=true):∀k,met.getD (itN os k i) false=true
 | 0=>hm
 | k+1=>hc _ (dG h k hi) (g7 h hc hi hm k)
open Classical in
noncomputable def ld(os:List Nat)(a:Nat):Nat:=if El os a then 1 else 0
theorem nY{xs:List Nat}{f:Nat->Nat}(h:∀x∈xs,f x=c):(xs.map f).sum=xs.length*c:=by
 induction xs with
 | nil=>simp
 | cons x xs ih=>rw[Fw,HV,h x (.head _),ih λy hy=>h y (.tail _ hy),Fk,MJ];lia
theorem eK{os:List Nat}{n:Nat}(h:Ord os n):∀i,i<=n->(∀j,j<n->(cA os i).2.getD j false=true->(cA os i).2.getD (os.getD j 0) false=true)/\(∀j,j<n->((cA os i).2.getD j false=true↔∃a,a<i/\Rb os a j))/\
  ((cA os i).1.map λr=>r.length+1).sum=sm (mf os (cA os i).2) n+sm (ld os) i
 | 0,_=>by
  have e:∀j,(cA os 0).2.getD j false=false:=λj=>by
   show(E2 os.length false).getD j false=false
   rw[EH,GR];split<;>rfl
  refine⟨λj _ hm=>(by rw[e]at hm;cases hm),λj _=>⟨λhm=>(by rw[e]at hm;cases hm),λ⟨a,ha,_⟩=>by lia⟩,?_⟩;have:sm (mf os (cA os 0).2) n=sm (λ_=>0) n:=gB λj _=>by unfold mf;rw[e];rfl
  rw[this];have z:∀n,sm (λ_=>0) n=0:=λn=>by induction n with
   | zero=>rfl
   | succ n ih=>show sm (λ_=>0) n+0=0;rw[ih]
  rw[z];rfl
 | i+1,hi=>by
  obtain⟨c1,c2,c3⟩:=eK h i ⋯;have hi':i<n:=hi;have hml:(cA os i).2.length=n:=by rw[eJ,h.len]
  rw[cJ];unfold xb;dsimp only;generalize hM:(cA os i).2=met at c1 c2 c3 hml;generalize hG:(cA os i).1=rgs at c3;have hl:=h.len;by_cases hm:met.getD i true=true
  ·have hm':met[i]? = some true:=by
    have:i<met.length:=by lia
    rw[EH,EF this]at hm;rw[EF this];exact congrArg some hm
   have hmf:met.getD i false=true:=by rw[EH,hm'];rfl
   rw[gT hm' ⋯];dsimp only;rw[if_neg (by simp)];obtain⟨a,ha,ra⟩:=(c2 i hi').mp hmf;refine⟨c1,λj hj=>⟨λq=>?_,λ⟨b,hb,rb⟩=>?_⟩,?_⟩
   ·obtain⟨b,hb,rb⟩:=(c2 j hj).mp q
    exact⟨b,by lia,rb⟩
   ·rcases FI b i with q|q
    ·exact(c2 j hj).mpr ⟨b,q,rb⟩
    ·have:b=i:=by lia
     subst this;exact(c2 j hj).mpr ⟨a,ha,ra.trans rb⟩
   ·have:ld os i=0:=by unfold ld;rw[if_neg λL=>L.2 a ha ra]
    rw[c3];show _=_+(sm (ld os) i+ld os i)
    lia
  ·obtain⟨hl1,e1,e2⟩:=gZ hm
   have hs:=p6 (os:=os) (os.length+1) met i;rw[hml]at hs;have hcl:=g6 h (os.length+1) met i hml hi' (by have:=uZ met;lia) λj hj q=>.inl (c1 j hj q)
   have hmem:=mL (os:=os) (os.length+1) met i;have hsum:=nY (xs:=(cg os (os.length+1) met i).1) (f:=wt os) (c:=wt os i) λx hx=>xn h hi' (hmem x hx)
   have hself:(cg os (os.length+1) met i).2.getD i false=true:=by
    rw[gU e1 (h.nx hi').1];exact g5 _ _ _ _ (by rw[cw hl1,if_pos rfl])
   have c2':∀j,j<n->((cg os (os.length+1) met i).2.getD j false=true↔∃a,a<i+1/\Rb os a j):=λj hj=>⟨λq=>?_,λ⟨b,hb,rb⟩=>?_⟩
   rotate_left
   ·rcases km _ _ _ _ q with q|q
    ·obtain⟨b,hb,rb⟩:=(c2 j hj).mp q
     exact⟨b,by lia,rb⟩
    ·exact⟨i,by lia,hmem j q⟩
   ·rcases FI b i with q|q
    ·exact g5 _ _ _ _ ((c2 j hj).mpr ⟨b,q,rb⟩)
    ·have:b=i:=by lia
     subst this;obtain⟨k,rfl⟩:=rb;exact g7 h hcl hi' hself k
   refine⟨hcl,c2',?_⟩;have unm:∀a,a<i->¬Rb os a i:=λa ha ra=>by
    rw[(c2 i hi').mpr ⟨a,ha,ra⟩]at e2;cases e2
   rw[hs,hsum];show _=_+(sm (ld os) i+ld os i)
   by_cases hfx:os.getD i 0=i
   ·have hlen:(cg os (os.length+1) met i).1.length=1:=by
     rw[gU e1 (h.nx hi').1,hfx,gT (f:=os.length) (by rw[G4,if_pos rfl,if_pos hl1]) ⋯];rfl
    have hw:wt os i=0:=by unfold wt;rw[if_pos hfx]
    have hld:ld os i=0:=by unfold ld;rw[if_neg λL=>L.1 hfx]
    rw[hlen,if_neg ⋯,c3,hw,hld];lia
   ·have hun:met.getD (os.getD i 0) false=false:=by
     cases q:met.getD (os.getD i 0) false with
     | false=>rfl
     | true=>
      obtain⟨k,ek⟩:=Rb.symm h hi' ⟨1,rfl⟩ (j:=os.getD i 0);have:=g7 h c1 (h.nx hi').2 q k;rw[<-ek,e2]at this;cases this
    have hlen:1<(cg os (os.length+1) met i).1.length:=by
     obtain⟨f,hf⟩:∃f,os.length=f+1:=⟨n - 1,by lia⟩
     have hg:(met.set i true)[os.getD i 0]? = some false:=by
      have h3:os.getD i 0<met.length:=by rw[hml];exact(h.nx hi').2
      rw[G4,if_neg λz=>hfx z.symm,EF h3];rw[EH,EF h3]at hun;exact congrArg some hun
     rw[gU e1 (h.nx hi').1,hf,gU hg (h.nx (h.nx hi').2).1];simp
    have hw:wt os i=1:=by unfold wt;rw[if_neg hfx]
    have hld:ld os i=1:=by unfold ld;rw[if_pos ⟨hfx,unm⟩]
    rw[if_pos hlen,EK,JC,c3,hw,hld];simp only[Fw,Ii,HV,List.sum_nil];lia
theorem p7{os:List Nat}(h:Ord os n):((aB os).map λr=>r.length+1).sum=sm (wt os) n+sm (ld os) n:=by
 obtain⟨_,c2,c3⟩:=eK h n (EI _);unfold aB;rw[h.len,c3];congr 1;refine gB λj hj=>?_
 unfold mf;rw[if_pos ((c2 j hj).mpr ⟨j,hj,0,rfl⟩)]
noncomputable def rgN(os:List Nat)(i k:Nat):List Nat:=(EZ k).map λt=>itN os t i
theorem eY(os:List Nat)(i k:Nat):(rgN os i k).length=k:=by unfold rgN;rw[EE,Fz]
theorem mM(os:List Nat)(i k:Nat):rgN os i (k+1)=rgN os i k++[itN os k i]:=by unfold rgN;rw[Il,EK];rfl
theorem u6{os:List Nat}(h:Ord os n)(hi:i<n)(k:Nat):∀x∈rgN os i k,x<n:=λx hx=>by
 obtain⟨t,_,rfl⟩:=E1.mp hx;exact dG h t hi
theorem p8{os:List Nat}(h:Ord os n)(hi:i<n):∀(k:Nat),(∀t,0<t->t<k->itN os t i≠i)->(rgN os i k).Nodup:=λk hk=>by
 unfold rgN;rw[Hg,IZ,FQ];intro a b ha hb hab e;rw[Fz]at ha hb;rw[Ho,Ho]at e;refine hk (b - a) ⋯ ⋯ ?_;have e2:itN os b i=itN os a (itN os (b - a) i):=by rw[<-dB];congr 1;lia
 rw[e2]at e;exact(lB h a hi (dG h _ hi) e).symm
theorem mN{xs:List Nat}(h:xs.Nodup)(hb:∀x∈xs,x<n):xs.length<=n:=by
 rcases FI n xs.length with g|g
 ·have:=(kh (ys:=EZ n) h (λx hx=>FE.mpr (hb x hx)) (by rw[Fz];lia)).length_eq
  rw[Fz]at this;lia
 ·exact g
theorem xo{os:List Nat}(e:itN os (k+1) i=i)(r:Rb os i j):j∈rgN os i (k+1):=by
 obtain⟨t,rfl⟩:=r;have per:∀q,itN os ((k+1)*q) i=i:=λq=>by
  induction q with
  | zero=>rfl
  | succ q ih=>rw[MN,dB,ih,e]
 refine E1.mpr ⟨t % (k+1),FE.mpr (Hu _ (Nat.succ_pos _)),?_⟩;have:=LL t (k+1);show itN os (t % (k+1)) i=itN os t i
 conv=>rhs;rw[<-this,dB,per]
theorem Ai{os:List Nat}(h:j∈rgN os i k):Rb os i j:=by
 obtain⟨t,_,rfl⟩:=E1.mp h;exact⟨t,rfl⟩
def p9(os:List Nat)(i j:Nat):Prop:=wt os j=1/\∃a,a<i/\Rb os a j
theorem Aj(os:List Nat)(j:Nat):wt os j=0\/wt os j=1:=by unfold wt;split<;>simp
end L2
namespace HT
open PySem PyProof.Rows PySem.W L2
section
variable{prog:Program}{w:World}{A:Around}{E:Value->Shared->Prop}{s:Shared}{a kS:Addr}{vs ks:List Value}{e e1:Nat}{P:NJ->Shared->Prop}
noncomputable abbrev kn(h:Heap)(kS a:Addr)(out:Array Value):Heap:=(h.update kS (Fj λ_=>(#[]:Array Value))).update a (Fj λ_=>out)
theorem mO {st:SortSt}{out:Array Value}(hka:kS≠a) (hoA:s.heap.get? a=some (seqObj "list" #[] e1)) (hoK:s.heap.get? kS=some (seqObj "list" ks.toArray e)) (hkl:ks.length<64) (hol:out.size<64) (hout:(arrOf st).map (·.2)=out) (hfl:failedOf st=none)
  (h:P (.done (.ret .none)) { s with heap:=kn s.heap kS a out }):wpAny (model prog w) A (ksk_tail a false e1 (.ref kS) st) P E s:=by
 have s1:=Hj s.heap kS (Fj λ_=>(#[]:Array Value));have na1:(s.heap.update kS (Fj λ_=>(#[]:Array Value))).get? a=some (seqObj "list" #[] e1):=(s1.2 a hka.symm).trans hoA;unfold ksk_tail;rw[hout];simp only[FK,if_false];refine Oh (OG hoK rfl ?_ (by rw[EW,Oj];lia) (EU _));refine Oh (wpAny_letGo ?_);refine Oh (seqEpoch_at na1 rfl ?_);refine Oh (OG na1 rfl ?_ (EU _) (by rw[Oj];lia));rw[hfl];simp only[bne_self_eq_false,FK,if_false];exact Oi h
theorem xp {κ:SortKind}{lt:Nat->Nat->Bool}(hka:kS≠a) (hoA:s.heap.get? a=some (seqObj "list" #[] e1)) (hoK:s.heap.get? kS=some (seqObj "list" ks.toArray e)) (hlen:ks.length=vs.length) (h64:vs.length<64) (H:Lt lt)
  (hk:∀(Q:SortKind->Shared->Prop),2<=vs.length->Q κ s->wpAny (model prog w) A (keyKind' ks.toArray) Q (λ_ _=>False) s)
  (hc:∀i j (Q:Bool->Shared->Prop),i<vs.length->j<vs.length->Q (lt i j) s->wpAny (model prog w) A (keyLt' κ (ks.getD i Ft) (ks.getD j Ft)) Q (λ_ _=>False) s)
  (h:∀p:List Nat,p.Perm (EZ vs.length)->p.Pairwise (Ah lt)->P (.done (.ret .none)) { s with heap:=kn s.heap kS a (Fo (p.map λi=>vs.getD i Ft)) }) :
  wpAny (model prog w) A (ksk_end a false vs.toArray e1 (.ref kS) ks.toArray) P E s:=by
 unfold ksk_end;simp only[FK,if_false];have hsz:vs.toArray.size=vs.length:=by simp
 by_cases h2:vs.toArray.size<2
 ·rw[if_pos h2,if_pos h2]
  refine Oh (Oi ?_);rw[LH];refine Oh (Oi ?_);dsimp only;have eo:(arrOf (Ip general' (ks.toArray.zip vs.toArray) #[] 7 none)).map (·.2)=Fo ((EZ vs.length).map λi=>vs.getD i Ft):=by
   have e:=kas_range (ks.toArray.zip vs.toArray);rw[show(ks.toArray.zip vs.toArray).size=vs.length by simp[hlen]]at e;have:=kat_snds (st:=Ip general' (ks.toArray.zip vs.toArray) #[] 7 none) (ks:=ks) (vs:=vs) hlen e.symm;simpa using this
  exact mO (st:=Ip general' (ks.toArray.zip vs.toArray) #[] 7 none) hka hoA hoK ⋯ (by simp;lia) eo rfl (h (EZ vs.length) (JN _) (mI _ ⋯))
 ·rw[if_neg h2,if_neg h2]
  refine Oh (Om (hk (λκ' s'=>κ'=κ/\s'=s) ⋯ ⟨rfl,rfl⟩) (λκ' s' hh=>?_) λ_ _ x=>x.elim);obtain⟨rfl,rfl⟩:=hh;refine Oh (Om (pX (ks:=ks) (vs:=vs) (I:=λs''=>s''=s') hlen ⋯ H rfl (λi j s'' hi hj es=>by subst es;exact hc i j _ hi hj ⟨rfl,rfl⟩)) ?_ λ_ _ e=>e);rintro⟨⟨⟩,st'⟩ s'' ⟨p,har,hf,hp,rfl,q1,q2⟩;dsimp only;exact mO hka hoA hoK ⋯ (by rw[EW,EE,FF,hp];exact h64) (kat_snds hlen har) hf (h p.toList q1 q2)
theorem tS{f:Value}(J:Nat->List Value->Shared->Prop)(h0:J 0 [] s)(h64:vs.length<64)
  (step:∀i x ks s,vs[i]? = some x->J i ks s->ks.length=i/\wpAny (model prog w) A (call f [x]) (λk s'=>∃e,s'.heap.get? kS=some (seqObj "list" ks.toArray e)/\J (i+1) (ks++[k]) { s' with heap:=s'.heap.update kS (Fj (·.push k)) }) (λ_ _=>False) s)
  (done:∀ks s,J vs.length ks s->∃e,s.heap.get? kS=some (seqObj "list" ks.toArray e)/\wpAny (model prog w) A (ksk_end a false vs.toArray e1 (.ref kS) ks.toArray) P E s) :
  wpAny (model prog w) A (ksk_rest a f false vs.toArray e1 (.ref kS)) P E s:=by
 unfold ksk_rest;refine Oh (wpAny_rule ?_)
 first
  | rw[List.forIn_toArray]
  | (rw[<-Ku];simp only[List.toList_toArray])
  | rw[<-Ku]
 refine Oh (ksk_fold (λi s'=>∃ks,J i ks s') vs 0 s ⟨[],h0⟩ ?step ?done);case step=>
  rintro j x s' hx ⟨ks,hJ⟩;rw[MO]at hJ ⊢;obtain⟨hkl,hcall⟩:=step j x ks s' hx hJ;have hj:j<vs.length:=(EM.mp hx).1;refine Oh (wpAny_attempt (Om hcall (λk s'' he=>?_) λ_ _ hF=>hF.elim));obtain⟨e,hk,hJ'⟩:=he
  try dsimp only
  refine Oh (OG hk rfl ?_ (by rw[EW,Oj];lia) (FB (GB (Array.size_push ..)) (by rw[EW,Oj];lia)));exact Oi ⟨rfl,_,hJ'⟩
 case done=>
  rintro s' ⟨ks,hJ⟩;rw[MO]at hJ;obtain⟨e,hk,hd⟩:=done ks s' hJ
  try dsimp only
  exact Oh (listItems_at hk rfl hd)
theorem tT {f:Value}(ho:s.heap.get? a=some (seqObj "list" vs.toArray n)) (h64:vs.length<64)
  (h:∀(h':Heap) (kS:Addr) (e1:Nat),(∀b o,b≠a->s.heap.get? b=some o->h'.get? b=some o)->s.heap.objs.size<=kS->h'.get? kS=some (seqObj "list" #[] 0)->h'.get? a=some (seqObj "list" #[] e1)->(∀b,s.heap.objs.size<=b->b<h'.objs.size->True)->
   wpAny (model prog w) A (ksk_rest a f false vs.toArray e1 (.ref kS)) P E { s with heap:=h' }) :
  wpAny (model prog w) A (ksk_tree a f false) P E s:=by
 have ha:a<s.heap.objs.size:=EV ho;have s1:=Hj s.heap a (Fj λ_=>(#[]:Array Value));obtain⟨e1,ho1⟩:∃e1,(s.heap.update a (Fj λ_=>(#[]:Array Value))).get? a=some (seqObj "list" #[] e1):=⟨_,OE ho λ_=>#[]⟩
 have hkS:((s.heap.update a (Fj λ_=>(#[]:Array Value))).push (seqObj "tuple" vs.toArray 0)).objs.size=s.heap.objs.size+1:=by rw[size_push',GO]
 unfold ksk_tree;refine Oh (listItems_at ho rfl ?_);refine Oh (OG ho rfl ?_ (by rw[EW,Oj];lia) (EU _));refine Oh (seqEpoch_at ho1 rfl ?_);refine Oh (wpAny_newTuple ?_ (by show vs.length<=_;rw[Oj];lia));refine Oh (wpAny_newList ?_ (EU _));refine Ox ?_;refine h (((s.heap.update a (Fj λ_=>(#[]:Array Value))).push (seqObj "tuple" vs.toArray 0)).push (seqObj "list" #[] 0)) _ e1 (λb o hb e=>?_) (by rw[hkS];lia) (E5 _ rfl) (EJ _ (EJ _ ho1)) (λ_ _ _=>trivial);exact EJ _ (EJ _ ((s1.2 b hb).trans e))
theorem nZ{Q:Value->Shared->Prop}{G:List Value->Prop}(h64:∀vs,G vs->vs.length<64)
  (hcol:∀(Q:List Value->Shared->Prop),(∀vs h1 tk,G vs->(∀b o,s.heap.get? b=some o->h1.get? b=some o)->Q vs { s with heap:=h1,toks:=tk })->wpAny (model prog w) A.in1 (collect (.ref l)) Q (λ_ _=>False) s)
  (h:∀(vs:List Value) (h1 h':Heap) (tk:Nat) (a kS:Addr) (e1:Nat),G vs->(∀b o,s.heap.get? b=some o->h1.get? b=some o)->(∀b o,h1.get? b=some o->h'.get? b=some o)->h1.objs.size<=a->a<kS->h'.get? kS=some (seqObj "list" #[] 0)->h'.get? a=some (seqObj "list" #[] e1)->
   wpAny (model prog w) A.in1.in1 (ksk_rest a (.ref q) false vs.toArray e1 (.ref kS)) (λr s'=>r=.done (.ret .none)/\Q (.ref a) s') (λ_ _=>False) { s with heap:=h',toks:=tk }) :
  wpAny (model prog w) A (call (.builtin "sorted") [.ref l] [(Fy "key",.ref q)]) Q E s:=by
 refine call_function_entry_kw kind_sorted plain_sorted entry_sorted (ksk_s1 _ _) ?_;unfold Builtin.«sorted»;refine Oh (m:=checkCount "sorted" 1 1 _) (Oi ?_);refine Oh (Om (hcol _ λvs h1 tk g1 k1=>?_) (λ_ _ x=>x) λ_ _ x=>x.elim);have h64:=h64 vs g1;refine Oh (wpAny_newList ?_ (by rw[Oj];lia));have hoL:(h1.push (seqObj "list" vs.toArray 0)).get? h1.objs.size=some (seqObj "list" vs.toArray 0):=E5 _ rfl;show wpAny _ _ _ _ _ { s with heap:=h1.push (seqObj "list" vs.toArray 0),toks:=tk }
 refine Oh (Ox (wpAny_call_entry_kw slot_list_sort ⟨_,hoL,rfl⟩ entry_list_sort ?body (ksk_l1 _ _)));case body=>
  show wpAny (model prog w) A.in1.in1 (Builtin.«list.sort» ⟨[.ref h1.objs.size],[(Fy "key",.ref q)]⟩) _ _ _
  rw[ksk_t1];refine tT (s:={ s with heap:=h1.push (seqObj "list" vs.toArray 0),toks:=tk }) hoL h64 λh' kS e1 k2 hk1 hk2 hk3 _=>?_
  have hlt:h1.objs.size<kS:=by
   have:=hk1;rw[show({ s with heap:=h1.push (seqObj "list" vs.toArray 0),toks:=tk }:Shared).heap.objs.size=h1.objs.size+1 from size_push' ..]at this;lia
  refine Om (h vs h1 h' tk h1.objs.size kS e1 g1 k1 (λb o e=>k2 b o (Fc (EV e)) (EJ _ e)) (EI _) hlt hk2 hk3) (λr s' hr=>?_) λ_ _ x=>x.elim
  obtain⟨rfl,hq⟩:=hr;exact⟨_,rfl,Oi ⟨_,rfl,hq⟩⟩
theorem jw{r:Addr}{x b c:Int}{t u v:Tok}{Q:List Value->Shared->Prop}(hh:A.handled=none)(hr:IsRange s.heap r x b c t u v)(hsmall:IA x b c=true)(hn:Gq x b c=n)(hlen:n<=2 ^ 24)
  (hQ:∀h' tk (acc:Array Value),(∀b o,s.heap.get? b=some o->h'.get? b=some o)->ItemsOf (λi v=>∃t,v=.int (x+i*c) t) acc n->Q acc.toList { s with heap:=h',toks:=tk }) :
  wpAny (model prog w) A (collect (.ref r)) Q E s:=by
 unfold collect;refine Oh (wpAny_runValue (codeAny_builtin PySem.F.entry_proto_collect ?_));rw[Hf PySem.F.plain_proto_collect _];show wpAny _ A.in1 (newList [] >>= λl=>again (.builtin "list.__iadd__" ⟨[l,.ref r],[]⟩)) _ _ s
 refine Oh (wpAny_newObj_type ?_);refine Oi ⟨plainId_quiet Js _,codeAny_builtin PySem.F.entry_list_iadd ?_⟩;rw[Hf Js _];show wpAny _ A.in1 (Ma (.ref s.heap.objs.size) (.ref r) (.ref s.heap.objs.size)) _ _ _
 have hS:(s.heap.push { cls:=.type "list",data:=.seq ([]:List Value).toArray }).get? s.heap.objs.size=some { cls:=.type "list",data:=.seq #[] 0 }:=E5 _ rfl;refine Om (wpAny_extend_range (A:=A) (s:={ s with heap:=s.heap.push { cls:=.type "list",data:=.seq ([]:List Value).toArray } }) (R:=λr' s'=>r'=.ok (.ret (.ref s.heap.objs.size))/\∃h' tk acc c',s'={ s with heap:=h',toks:=tk }/\(∀b o,s.heap.get? b=some o->h'.get? b=some o)/\h'.get? s.heap.objs.size=some { cls:=.type "list",dict:=none,data:=.seq acc c',slots:=#[] }/\ItemsOf (λi v=>∃t,v=.int (x+i*c) t) acc n)
  hh (EJ _ hr) hsmall hn hlen s.heap.objs.size _ 0 hS λh' tk acc c' k g i=>⟨rfl,h',tk,acc,c',rfl,λb o e=>k b o (Fc (EV e)) (EJ _ e),g,i⟩) (λfin s' hf=>?_) (λe s' hf=>?_)
 ·have fin':∀s',(∃h' tk acc c',s'={ s with heap:=h',toks:=tk }/\(∀b o,s.heap.get? b=some o->h'.get? b=some o)/\h'.get? s.heap.objs.size=some { cls:=.type "list",dict:=none,data:=.seq acc c',slots:=#[] }/\ItemsOf (λi v=>∃t,v=.int (x+i*c) t) acc n)->
   wpAny (model prog w) A (match Fi s.heap.objs.size with
   | Fi a=>do
    match(<-load a).data with
     | NR xs _=>pure xs.toList
     | _=>unsupported "internal:collect"
   | _=>unsupported "internal:collect") Q E s':=by
   rintro s' ⟨h',tk,acc,c',rfl,k,g,i⟩;show wpAny _ A (load s.heap.objs.size >>= _) _ _ _
   exact Oh (wpAny_load g (Oi (hQ h' tk acc k i)))
  cases fin with
  | done f=>
   obtain⟨e,hx⟩:=hf;cases e;exact fin' _ hx
  | again c'=>exact⟨hf.1,OJ hf.2 λr' s'' hr=>by obtain⟨rfl,hx⟩:=hr;exact fin' _ hx⟩
 ·exact absurd hf.1 (by simp)
end
end HT
namespace L2
open PySem PySem.Spec PyProof.Rows PySem.W
noncomputable def qa(X:Cx)(N:List Str)(qual:Str)(scope:Scope)(f c':Addr)(cl:List (Str×Addr))(A:Around)(C:Addr)(s:Shared)(H:Hp):Cx:=
 { X with A:=A.deeper (envX qual scope C f (.ref c') cl),N:=N,s₀:=s,H₀:=H,env:=envX qual scope C f (.ref c') cl,outer:=X.stack,stack:=envX qual scope C f (.ref c') cl::X.stack,ex:=[],fn:=λ_=>false,calm:=true,pn:=[],xe:=λ_ _=>False }
noncomputable def FlOk(X:Cx)(scope:Scope)(cl:List (Str×Addr)):List Str->Prop
 | []=>True
 | x::r=>(X.env.kindOf x=some .cell/\scope.names.lookup x=some .free/\∃c,cl.lookup x=some c/\X.env.cells.lookup x=some c)/\FlOk X scope cl r
theorem FlOk.mem{X:Cx}{scope:Scope}{cl:List (Str×Addr)}:∀{l:List Str},FlOk X scope cl l->∀x∈l,
  X.env.kindOf x=some .cell/\scope.names.lookup x=some .free/\∃c,cl.lookup x=some c/\X.env.cells.lookup x=some c
 | [],_,_,h=>nomatch h
 | y::r,⟨h1,h2⟩,x,h=>by
  rcases EO.mp h with e|e
  ·subst e;exact h1
  ·exact FlOk.mem h2 x e
structure LamOk (X:Cx) (N:List Str) (x:Str) (frs:List Str) (ix:List Nat) (scope:Scope) (cl:List (Str×Addr)):Prop where
 clos:closureFor scope X.env=pure cl
 cell:∀y∈scope.names,y.2≠.cell
 kind:scope.kind=.function
 par:scope.names.lookup x=some .local
 nm:N=x::frs
 ixs:ix.map (X.N[·]?)=frs.map some
 fr:FlOk X scope cl frs
 cls:ClOk X cl
 has:scope.names.all (λp=>!(p.2 == .cell || p.2 == .free) || (cl.lookup p.1).isSome)=true
 co:scope.isCoroutine=false
 gen:scope.isGenerator=false
noncomputable def qb(ix:List Nat)(σ:St)(v:V):St:=some v::ix.map λj=>(σ[j]?).getD none
section
variable{X:Cx}{N frs:List Str}{x qual:Str}{ix:List Nat}{scope:Scope}{cl:List (Str×Addr)}{A:Around}{f c' C:Addr}
theorem LamOk.hasOf(c:LamOk X N x frs ix scope cl)(h:scope.names.lookup y=some .cell\/scope.names.lookup y=some .free):∃a,cl.lookup y=some a:=by
 have all:=F4.mp c.has;rcases h with h|h
 ·have q:=all _ (eF h)
  exact F2.mp (by simpa only[beq_self_eq_true,Kq,IR,HU]using q)
 ·have q:=all _ (eF h)
  exact F2.mp (by simpa only[beq_self_eq_true,MK,IR,HU]using q)
theorem xq{H:Hp}{s:Shared}{h1:Heap}{tk:Nat}{m:Str->Option Value}(c:LamOk X N x frs ix scope cl)(I:Inv X pins σ H s)(hA:A.frames=some X.stack)(hh:A.handled=none)
  (hC:s.heap.objs.size<=C) (hns:h1.Ns C m) (hm:m x=some u) (r:RelV v u) (hk:∀b o,s.heap.get? b=some o->h1.get? b=some o) :
  Inv (qa X N qual scope f c' cl A C s H) [] (qb ix σ v) H { s with heap:=h1,toks:=tk }:=by
 have hcn:∀x a,cl.lookup x=some a->X.env.cells.lookup x=some a:=c.cls.get
 refine⟨⟨I.ok.mod,c.kind,rfl,rfl,hC,λx y a h1 h2=>I.ok.inj x y a (hcn _ _ h1) (hcn _ _ h2),λx hx=>c.hasOf hx,(λx a z _=>Bool.noConfusion z),λ_=>hh,?_,.inr ⟨rfl,rfl⟩,λb hb=>(by cases hb),I.bs,FB I.ok.bsz I.sz,λb o e hb=>(by cases hb),λb hb z=>(by cases hb),I.stack,I.stkFree⟩,
  rfl,I.bare,Un.kept hk,⟨m,hns,λi y w e1 e2 e3=>?_⟩,λx a e=>?_,I.hok.fresh hC,λx a e=>I.freeC x a (hcn x a e),λp hp=>(by cases hp),I.hok.kept hk,?_⟩
 ·show(A.deeper _).frames=some _
  simp only[Around.deeper,hA];rfl
 ·rw[show(qa X N qual scope f c' cl A C s H).N=x::frs from c.nm]at e1
  match i,e1,e2 with
  | 0,e1,e2=>
   cases e1;cases e2;exact⟨u,r,.inl ⟨c.par,hm⟩⟩
  | i+1,e1,e2=>
   have e1:frs[i]? = some y:=by simpa using e1
   have e2:(ix.map λj=>(σ[j]?).getD none)[i]? = some (some w):=e2;have hy:y∈frs:=ES e1;obtain⟨k1,k2,a,l1,l2⟩:=c.fr.mem y hy;have e:=congrArg (·[i]?) c.ixs;simp only[EN,e1]at e;rw[EN]at e2;cases q:ix[i]? with
   | none=>rw[q]at e;cases e
   | some j=>
    rw[q]at e e2;simp only[Jx,KS]at e e2;have n2:σ[j]? = some (some w):=by
     cases z:σ[j]? with
     | none=>rw[z]at e2;cases e2
     | some o=>rw[z]at e2;simp at e2;rw[e2]
    obtain⟨m',_,hl⟩:=I.loc;obtain⟨u',r',l⟩:=hl j y w e n2 (.inr (.inl k1));refine⟨u',r',.inr ⟨.inr k2,a,l1,?_⟩⟩;rcases l with⟨l,_⟩|⟨_,a',l3,o,l4,l5⟩
    ·rw[k1]at l;cases l
    ·rw[l2]at l3;cases l3
     exact⟨o,hk _ _ l4,l5⟩
 ·obtain⟨v,o,q1,q2⟩:=I.cell x a (hcn x a e)
  exact⟨v,o,hk _ _ q1,q2⟩
 ·show(qb ix σ v).length=N.length
  unfold qb;have e:=congrArg GX c.ixs;simp only[EE]at e;rw[c.nm];simp[e]
theorem tU{H:Hp}{s:Shared}{name:Str}{params:Arguments}{body:Expr}{ctv:Value}{te:TE}(c:LamOk X N x frs ix scope cl)(I:Inv X pins σ H s)(hA:A.frames=some X.stack)(hh:A.handled=none)(hroom:A.depth<recursionLimit)
  (hf:s.heap.get? f=some (kla_obj name qual params body scope cl pm c' ctv)) (hcd:s.heap.CodeRec (.ref c') qual) (hbind:bindArgs (kla_fn name qual params body scope cl pm (.ref c') ctv) ⟨[u],[]⟩=pure [(x,u)]) (r:RelV v u)
  (he:∀C s H,PE (qa X N qual scope f c' cl A C s H) body te) (q:te (qb ix σ v) H Q):wpAny (model X.prog X.w) A (call (.ref f) [u]) (EP X pins σ Q) (λ_ _=>False) s:=by
 refine wpAny_call (OJ (R:=λr s'=>match r with
  | .ok (.ret u)=>CE X.stack X.prog X.w H s Q u s'
  | _=>False) (kla_callFunE hroom hf rfl c.co c.gen rfl hcd ?_) λr s' hr=>?_)
 ·rw[hbind]
  refine Oi (wpAny_newFunctionEnv c.cell (λy hy=>by rw[Fu.mp hy];exact c.par) (λh₁ hns hsb=>⟨(I.nolimit).fresh _ hsb,?_⟩) c.kind);have hk₁:∀b o,s.heap.get? b=some o->h₁.get? b=some o:=λb o e=>hsb.extBut b o (Fc (EV e)) (EJ _ e)
  show codeAny _ _ (.expr body (envX qual scope s.heap.objs.size f (.ref c') cl)) _ _
  have I1:=xq (qual:=qual) (f:=f) (c':=c') (tk:=s.toks+[(x,u)].length) c I hA hh (EI _) hns (by show([(x,u)].reverse).lookup x=some u;simp) r hk₁;refine kla_codeExpr (Om (he _ _ _ [] _ _ H Q I1 q) (λw s' hs=>?_) λ_ _ z=>(by exact z.elim));obtain⟨y,H',J,rv,hq⟩:=hs;exact⟨y,H',J.os,J.bare,J.base,J.hok,rv,hq⟩
 ·match r,hr with
  | .ok (.ret u'),hr=>exact I.after hr
end
noncomputable def lC(c':Addr)(qual:Str):HO:=.ext λh=>h.CodeRec (.ref c') qual
def TabOk(P:Addr)(lpos:Pos)(qual:Str)(H:Hp):Prop:=H P=some (.tbl #[])\/∃c',H P=some (.tbl #[rawInt lpos.line,rawInt lpos.col,.ref c'])/\H c'=some (lC c' qual)
def SameX(P:Addr)(H H':Hp):Prop:=∀b o,b≠P->H b=some o->H' b=some o
theorem SameX.refl(P:Addr)(H:Hp):SameX P H H:=λ_ _ _ h=>h
theorem TabOk.ne{P:Addr}{H:Hp}(t:TabOk P lpos qual H){b:Addr}(h:H b=some (.lst xs)):b≠P:=λe=>by
 subst e;rcases t with t|⟨c,t,_⟩<;>rw[h]at t<;>cases t
theorem TabOk.neT{P:Addr}{H:Hp}(t:TabOk P lpos qual H){b:Addr}(h:H b=some (.tup xs)):b≠P:=λe=>by
 subst e;rcases t with t|⟨c,t,_⟩<;>rw[h]at t<;>cases t
theorem TabOk.same{P:Addr}{H:Hp}(t:TabOk P lpos qual H)(s:Same H H1):TabOk P lpos qual H1:=by
 rcases t with t|⟨c,t,u⟩
 ·exact .inl (s _ _ t)
 ·exact .inr ⟨c,s _ _ t,s _ _ u⟩
section
variable{X:Cx}{N frs:List Str}{x:Str}{ix:List Nat}{scope:Scope}{cl:List (Str×Addr)}{A:Around}{cc P:Addr}{pins:List (Addr×Obj)}{σ:St}{H:Hp}{s:Shared}{params:Arguments}{body:Expr}{lpos:Pos}
theorem n6{P:Program}{w:World}{H:Hp}{c':Addr}(e:h.CodeRec (.ref c') qual):ObjOk P w H h c' (lC c' qual):=by
 obtain⟨c,o,vs,t,e1,e2,e3,e4⟩:=id e;cases e1;refine⟨e,⟨o,e2⟩,λh1 h2 hφ k=>?_⟩;obtain⟨c2,o2,vs2,t2,f1,f2,f3,f4⟩:=hφ;cases f1;exact⟨_,o2,vs2,t2,rfl,k _ f2,f3,f4⟩
theorem tV {M:Model}{Q:Value->Shared->Prop}(hcl:closureFor scope X.env=pure cl) (I:Inv X pins σ H s) (hcode:X.env.code=.ref cc) (hcd:codeHdIn X.K cc P=true) (hb:X.base.BuiltinsAt X.mg P) (hdef:defaultsOf params X.env=([],[])) (T:TabOk P lpos (X.env.qual++"<lambda>") H)
  (h:∀f c' pm ctv H' s',Inv X ((f,kla_obj "<lambda>" (X.env.qual++"<lambda>") params body scope cl pm c' ctv)::pins) σ H' s'->TabOk P lpos (X.env.qual++"<lambda>") H'->SameX P H H'->H' c'=some (lC c' (X.env.qual++"<lambda>"))->Q (.ref f) s') :
  wpAny M A (eval (.Lambda params body scope lpos) X.env) Q E s:=by
 refine kla_eval hdef ?_;have hg:s.heap.Ns mainGlobals X.mg:=I.mod.glob.keeps I.bk;have C:CodeHd s.heap cc P:=codeHd_of_K I.kIn hcd;have hbs:s.heap.BuiltinsAt X.mg P:=by
  obtain⟨bm,o,b1,b2,b3,b4,b5,b6⟩:=hb;exact⟨bm,o,b1,b2,b3,b4,I.bk _ _ b5,b6⟩
 have hPL:∀ps,H P=some (.tbl ps)->P≠X.env.locals:=λps e z=>by rw[z,I.free]at e;cases e
 have hPc:∀ps,H P=some (.tbl ps)->∀x c,X.env.cells.lookup x=some c->c≠P:=λps e x c h1 z=>by rw[<-z,I.freeC x c h1]at e;cases e
 have hgP:∀ps,H P=some (.tbl ps)->mainGlobals≠P:=λps e z=>by
  obtain⟨o,es,ep,ho,_⟩:=I.mod.glob;rw[<-z,(I.bs _ _ ho).2]at e;cases e
 rcases T with T|⟨c',T,Tc⟩
 ·have hP:s.heap.get? P=some (tabObj #[]):=I.hok P _ T
  refine kla_makeFunction (mg:=X.mg) hcl I.ok.glob hg hcode C hP trivial rfl (hgP _ T) hbs λc' ctv h' tk hx hge hlt hrec htb=>?_
  have htb':h'.get? P=some (tabObj #[rawInt lpos.line,rawInt lpos.col,.ref c']):=htb;have nP:∀(b:Addr) (u:Obj),H b=none->b≠P:=λb u n z=>by rw[z,T]at n;cases n
  have hcP:c'≠P:=GL (Fb (I.hok.lt T) hge);have I1:Inv X pins σ (upd H P (.tbl #[rawInt lpos.line,rawInt lpos.col,.ref c'])) { s with heap:=h',toks:=tk }:=by
   refine I.step (g':=s.gens) (d':=s.drawn) (ch:=[]) (λ_ z=>nomatch z) (λb o _ _ _ e n=>hx b o (nP b o n) e) (λb o _ _ _ e n=>⟨o.slots,hx b o (nP b o n) e⟩) (λb o _ e n=>by rw[ak (nP b o n)];exact n) (λb o _ e=>?_)
    (λb xs e=>?_) (λb o u e=>?_) (λb ps e=>?_) (λm hm=>?_) (λb u e=>?_) I.bare
   ·by_cases hb:b=P
    ·exact⟨_,hb▸htb'⟩
    ·exact⟨o,hx b o hb e⟩
   ·rw[ak (fm e T (by intro z;cases z))];exact e
   ·rw[ak (fm e T (by intro z;cases z))];exact e
   ·by_cases hb:b=P
    ·subst hb
     rw[T]at e;cases e;exact⟨#[rawInt lpos.line,rawInt lpos.col,.ref c'],by rw[ae];rfl⟩
    ·exact⟨#[],by rw[ak hb,e];simp⟩
   ·obtain⟨o,es,ep,ho,r⟩:=hm
    exact⟨o,es,ep,hx _ o (E7 (hPL _ T)) ho,r⟩
   ·by_cases hb:b=P
    ·subst hb
     rw[ae]at e;cases e;exact htb'
    ·rw[ak hb]at e
     refine(I.hok b u e).stay (λc v hc q=>hx c v ?_ q) (λc q=>by rw[ak (fm q T (by intro z;cases z))];exact q) λc xs q=>by rw[ak (fm q T (by intro z;cases z))];exact q
     rcases hc with z|z
     ·rw[z];exact hb
     ·exact fm z T (by intro z;cases z)
  have hcn:(upd H P (.tbl #[rawInt lpos.line,rawInt lpos.col,.ref c'])) c'=none:=by rw[ak hcP];exact I.hok.fresh hge
  obtain⟨q0,q1,q2,q3,q4,q5⟩:=I.fpOk (b:=c') (H':=λ_=>none) hge rfl;have I2:=I1.adopt (D:=c') (o:=lC c' (X.env.qual++"<lambda>")) hcn q1 q3 q4 q5 (n6 hrec);have I3:Inv X pins σ _ { s with heap:=h'.push (kla_obj "<lambda>" (X.env.qual++"<lambda>") params body scope cl ((X.mg "__name__").getD .none) c' ctv),toks:=tk }:=I2.kept (t':=tk) λb o e=>EJ _ e
  have hfn:(upd (upd H P (.tbl #[rawInt lpos.line,rawInt lpos.col,.ref c'])) c' (lC c' (X.env.qual++"<lambda>"))) h'.objs.size=none:=I2.hok.fresh (EI _);obtain⟨r0,r1,r2,r3,r4,r5⟩:=I2.fpOk (b:=h'.objs.size) (H':=λ_=>none) (EI _) rfl;have I4:=I3.pins_of (pins':=(h'.objs.size,kla_obj "<lambda>" (X.env.qual++"<lambda>") params body scope cl ((X.mg "__name__").getD .none) c' ctv)::pins) λp hp=>by
   rcases EO.mp hp with rfl|hp
   ·exact⟨E5 _ rfl,hfn,r1,r2,λv z=>by cases z⟩
   ·exact I3.pin p (ET _ hp)
  refine h _ c' _ ctv _ _ I4 (.inr ⟨c',by rw[ak (E7 hcP),ae],ae⟩) (λb o hb e=>?_) ae;rw[ak (λz=>by rw[z,I.hok.fresh hge]at e;cases e),ak hb];exact e
 ·have hP:s.heap.get? P=some (tabObj #[rawInt lpos.line,rawInt lpos.col,.ref c']):=I.hok P _ T
  refine kla_makeFunctionHit (mg:=X.mg) (cv:=.ref c') hcl I.ok.glob hg hcode C hP (show TriplesOk [_,_,_]from trivial) (codeAmong_snoc [] trivial rfl) hbs λctv h' tk hk hsz=>?_
  have I1:Inv X pins σ H { s with heap:=h',toks:=tk }:=I.kept (t':=tk) hk;have I3:Inv X pins σ H { s with heap:=h'.push (kla_obj "<lambda>" (X.env.qual++"<lambda>") params body scope cl ((X.mg "__name__").getD .none) c' ctv),toks:=tk }:=I1.kept (t':=tk) λb o e=>EJ _ e
  obtain⟨r0,r1,r2,r3,r4,r5⟩:=I1.fpOk (b:=h'.objs.size) (H':=λ_=>none) (EI _) rfl;have I4:=I3.pins_of (pins':=(h'.objs.size,kla_obj "<lambda>" (X.env.qual++"<lambda>") params body scope cl ((X.mg "__name__").getD .none) c' ctv)::pins) λp hp=>by
   rcases EO.mp hp with rfl|hp
   ·exact⟨E5 _ rfl,I1.hok.fresh (EI _),r1,r2,λv z=>by cases z⟩
   ·exact I3.pin p (ET _ hp)
  exact h _ c' _ ctv _ _ I4 (.inr ⟨c',T,Tc⟩) (SameX.refl _ _) Tc
def KeyR(H:Hp)(ys:List V)(lt:Nat->Nat->Bool):Prop:=
 (∃ns:List Int,ys=ns.map N7/\lt=λi j=>decide (ns.getD i 0<ns.getD j 0))\/
 (∃(rs:List Addr) (rss:List (List Int)),ys=rs.map Oa/\rs.length=rss.length/\(∀(i:Nat) a r,rs[i]? = some a->rss[i]? = some r->H a=some (.tup (r.map N7)))/\((∀r∈rss,r=[])\/(∀r∈rss,r≠[]))/\lt=λi j=>HT.bH (rss.getD i []) (rss.getD j []))
theorem KeyR.lt{H:Hp}{lt:Nat->Nat->Bool}(k:KeyR H ys lt):Lt lt:=by
 rcases k with⟨ns,_,rfl⟩|⟨rs,rss,_,_,_,_,rfl⟩
 ·exact HT.xl ns
 ·exact HT.p0 rss
theorem KeyR.ask{lt:Nat->Nat->Bool}{ks:List Value}(k:KeyR H ys lt)(I:Inv X pins σ H s)(hu:A.units<cLine)(rv:Vals ys ks):∃κ:SortKind,
  (∀(Q:SortKind->Shared->Prop),2<=ks.length->Q κ s->wpAny (model X.prog X.w) A (keyKind' ks.toArray) Q (λ_ _=>False) s)/\
  (∀i j (Q:Bool->Shared->Prop),i<ks.length->j<ks.length->Q (lt i j) s->wpAny (model X.prog X.w) A (keyLt' κ (ks.getD i Ft) (ks.getD j Ft)) Q (λ_ _=>False) s):=by
 rcases k with⟨ns,rfl,rfl⟩|⟨rs,rss,rfl,hlen,ht,hw,rfl⟩
 ·have hi:=ck rv
  refine⟨oneType',λQ h2 hQ=>?_,λi j Q hi1 hj1 hQ=>?_⟩
  ·obtain⟨v₁,v₂,dm,rfl⟩:∃v₁ v₂ dm,ks=v₁::v₂::dm:=by
    match ks,h2 with
    | v₁::v₂::dm,_=>exact⟨v₁,v₂,dm,rfl⟩
   rw[keyKind_ints hi];exact Oi hQ
  ·obtain⟨t1,e1⟩:=HT.lA hi hi1
   obtain⟨t2,e2⟩:=HT.lA hi hj1;rw[e1,e2,keyLt'_oneType];exact oneLt_int hQ
 ·obtain rfl:=fA rv
  have hl:(rs.map Fi).length=rs.length:=EE _;have tup:∀(i:Nat) v r,(rs.map Fi)[i]? = some v->rss[i]? = some r->∃a its,v=.ref a/\IsTup s.heap a its/\Ou its.toList r:=λi v r e1 e2=>by
   rw[EN]at e1;obtain⟨a,ea,rfl⟩:=FJ.mp e1;obtain⟨its,r1,hT,_⟩:=I.tuple (N6 (ht i a r ea e2));exact⟨a,its.toArray,rfl,hT,ck r1⟩
  have get:∀i,i<(rs.map Fi).length->(rs.map Fi)[i]? = some ((rs.map Fi).getD i Ft)/\rss[i]? = some (rss.getD i []):=λi hi=>by
   have h2:i<rss.length:=by lia
   constructor
   ·rw[EH,EF hi];rfl
   ·rw[EH,EF h2];rfl
  rcases hw with hw|hw
  ·refine⟨oneType',λQ h2 hQ=>HT.mK h2 (λv hv=>?_) hQ,λi j Q hi hj hQ=>?_⟩
   ·obtain⟨i,hi,ei⟩:=F9 hv
    obtain⟨g1,g2⟩:=get i hi;obtain⟨a,its,rfl,t,ti⟩:=tup i v _ (by rw[EF hi,ei]) g2;rw[hw _ (ES g2)]at ti;obtain⟨its'⟩:=its;cases ti;exact⟨a,rfl,t⟩
   ·obtain⟨g1,g2⟩:=get i hi
    obtain⟨k1,k2⟩:=get j hj;obtain⟨a,its,e,t,ti⟩:=tup i _ _ g1 g2;obtain⟨a',its',e',t',ti'⟩:=tup j _ _ k1 k2;rw[e,e'];exact HT.pY hu t t' ti ti' hQ
  ·refine⟨tuples' true,λQ h2 hQ=>HT.kj h2 ⋯ tup hw hQ,λi j Q hi hj hQ=>?_⟩
   obtain⟨g1,g2⟩:=get i hi;obtain⟨k1,k2⟩:=get j hj;obtain⟨a,its,e,t,ti⟩:=tup i _ _ g1 g2;obtain⟨a',its',e',t',ti'⟩:=tup j _ _ k1 k2;rw[e,e'];exact HT.mJ t t' ti ti' hQ
def xr(te:TE)(ix:List Nat)(xs:List V)(σ:St)(H:Hp)(Q:VK):Prop:=xs.length<64/\
 ∃W:Nat->List V->Hp->Prop,W 0 [] H/\(∀i ys H x,xs[i]? = some x->W i ys H->te (qb ix σ x) H λy H'=>Same H H'/\W (i+1) (ys++[y]) H')/\
  ∀ys H,ys.length=xs.length->W xs.length ys H->∃lt,KeyR H ys lt/\∀(d:Addr) (p:List Nat),H d=none->p.Perm (EZ xs.length)->p.Pairwise (Ah lt)->Q (.ref d) (upd H d (.lst (p.map λi=>xs.getD i .non)))
theorem jx:∀{xs:List V}{us:List Value},Vals xs us->∀{i:Nat}{u:Value},us[i]? = some u->∃y,xs[i]? = some y/\RelV y u
 | _,_,.nil,_,_,h=>by simp at h
 | _,_,.cons r t,0,u,h=>by cases h;exact⟨_,rfl,r⟩
 | _,_,.cons r t,i+1,u,h=>by
  obtain⟨y,e,q⟩:=jx t (i:=i) (by simpa using h);exact⟨y,by simpa using e,q⟩
theorem qc(r:Vals xs us){p:List Nat}(h:∀i∈p,i<us.length):Vals (p.map λi=>xs.getD i .non) (p.map λi=>us.getD i Ft):=by
 refine gA λi hi=>?_
 have h1:=h i hi;obtain⟨y,e,q⟩:=jx r (EF h1);rw[EH,EH,e,EF h1];exact q
theorem qd{name:Str}{ctv:Value}{te:TE}{f c':Addr}(c:LamOk X N x frs ix scope cl)(hc:X.calm=true)(hroom:X.A.in1.in1.depth<recursionLimit)(hu:X.A.in1.in1.units<cLine)
  (I:Inv X ((f,kla_obj name qual params body scope cl pm c' ctv)::pins) σ H s) (hH:H c'=some (lC c' qual)) (hbind:∀u,bindArgs (kla_fn name qual params body scope cl pm (.ref c') ctv) ⟨[u],[]⟩=pure [(x,u)])
  (he:∀C s H,PE (qa X N qual scope f c' cl X.A.in1.in1 C s H) body te)
  (hcol:∀(Q:List Value->Shared->Prop),(∀vs h1 tk,Vals xs vs->(∀b o,s.heap.get? b=some o->h1.get? b=some o)->Q vs { s with heap:=h1,toks:=tk })->wpAny (model X.prog X.w) X.A.in1 (collect (.ref l)) Q (λ_ _=>False) s)
  (h:xr te ix xs σ H Q):wpAny (model X.prog X.w) X.A (call (.builtin "sorted") [.ref l] [(Fy "key",.ref f)]) (EP X pins σ Q) X.xe s:=by
 obtain⟨h64,W,w0,wst,wfin⟩:=h;refine HT.nZ (G:=Vals xs) (λvs g=>by rw[<-g.length];exact h64) hcol λvs h1 h' tk a kS e1 g k1 k2 ha hak hkS hoA=>?_
 have hvl:vs.length=xs.length:=g.length.symm;generalize hfo:kla_obj name qual params body scope cl pm c' ctv=fo at I;have I1:Inv X ((f,fo)::pins) σ H { s with heap:=h1,toks:=tk }:=I.kept (t':=tk) k1;have I2:Inv X ((f,fo)::pins) σ H { s with heap:=h',toks:=tk }:=I1.kept (t':=tk) k2;obtain⟨_,a1,a2,a3,a4,a5⟩:=I1.fpOk (b:=a) (H':=λ_=>none) ha rfl;have hak':@LT.lt Nat _ a kS:=hak;have hk:h1.objs.size<=kS:=Gy (FC ha hak');obtain⟨_,b1,b2,b3,b4,b5⟩:=I1.fpOk (b:=kS) (H':=λ_=>none) hk rfl;have hka:kS≠a:=GL hak';have I3:Inv X ((a,seqObj "list" #[] e1)::(kS,seqObj "list" ([]:List Value).toArray 0)::(f,fo)::pins) σ H { s with heap:=h',toks:=tk }:=I2.pins_of λp hp=>by
  rcases EO.mp hp with rfl|hp
  ·exact⟨hoA,I1.hok.fresh ha,a1,a2,λv z=>by cases z⟩
  ·rcases EO.mp hp with rfl|hp
   ·exact⟨hkS,I1.hok.fresh hk,b1,b2,λv z=>by cases z⟩
   ·exact I2.pin p (ET _ hp)
 have old:∀{pn:List (Addr×Obj)}{H':Hp}{s':Shared}{u:Obj}{it:Addr},Inv X pn σ H' s'->H' it=none->it≠X.env.locals->(it∈X.ex\/X.s₀.heap.objs.size<=it)->(∀x c,X.env.cells.lookup x=some c->c≠it)->(∀p∈X.pn++pn,p.1≠it)->∀g:Obj->Obj,Inv X pn σ H' { s' with heap:=s'.heap.update it g }:=
  λ{pn H' s' u it} J n1 n2 n3 n4 n5 g=>J.turned (t':=s'.toks) (it:=it) (λb o hb e=>((Hj s'.heap it g).2 b hb).trans e) n1 n2 n3 n4 n5
 have pinF:∀p∈X.pn++((f,fo)::pins),p.1≠a/\p.1≠kS:=λp hp=>⟨a5 p hp,b5 p hp⟩
 refine HT.tS (λi ks s'=>∃ys H' e,Inv X ((a,seqObj "list" #[] e1)::(kS,seqObj "list" ks.toArray e)::(f,fo)::pins) σ H' s'/\Vals ys ks/\W i ys H'/\H' c'=some (lC c' qual)/\ks.length=i) ⟨[],H,0,I3,.nil,w0,hH,rfl⟩ ⋯ ?_ ?_
 ·rintro i u ks s' hu' ⟨ys,H',e,J,rv,hw,hHc,hkl⟩
  refine⟨hkl,?_⟩;obtain⟨xv,ex,rx⟩:=jx g hu';have q:=wst i ys H' xv ex hw;have hfp:=(J.pin (f,fo) (ET _ (.tail _ (.tail _ (.head _))))).1;rw[<-hfo]at hfp;have hrec:s'.heap.CodeRec (.ref c') qual:=(J.hok c' _ hHc).1;refine Om (tU c J (show X.A.in1.in1.frames=some X.stack from J.ok.frames) (J.ok.hd hc) hroom hfp hrec (hbind u) rx he q) (λk s2 hk2=>?_) λ_ _ z=>z
  obtain⟨y,H2,J2,ry,sm,hw2⟩:=hk2;obtain⟨p1,p2,p3,p4,p5⟩:=J2.pin (kS,seqObj "list" ks.toArray e) (ET _ (.tail _ (.head _)));refine⟨e,p1,ys++[y],H2,?_⟩;have J3:Inv X ((a,seqObj "list" #[] e1)::(f,fo)::pins) σ H2 s2:=J2.pins_of λp hp=>by
   rcases EO.mp hp with rfl|hp
   ·exact J2.pin _ (ET _ (.head _))
   ·exact J2.pin p (ET _ (.tail _ (.tail _ hp)))
  have J4:=old (u:=fo) J3 p2 b1 b3 b4 (λp hp=>by
   rcases Fq.mp hp with hp|hp
   ·exact(pinF p (Hb _ hp)).2
   ·rcases EO.mp hp with rfl|hp
    ·exact E7 hka
    ·exact(pinF p (ET _ hp)).2) (Fj (·.push k))
  obtain⟨c2,hc2⟩:∃c2,(s2.heap.update kS (Fj (·.push k))).get? kS=some (seqObj "list" (ks.toArray.push k) c2):=⟨_,OE p1 (·.push k)⟩
  have eu:ks.toArray.push k=(ks++[k]).toArray:=by simp
  rw[eu]at hc2;refine⟨c2,J4.pins_of λp hp=>?_,rv.append (.cons ry .nil),hw2,sm _ _ hHc,by simp[hkl]⟩;rcases EO.mp hp with rfl|hp
  ·exact J4.pin _ (ET _ (.head _))
  ·rcases EO.mp hp with rfl|hp
   ·exact⟨hc2,p2,p3,p4,λv z=>by cases z⟩
   ·exact J4.pin p (ET _ (.tail _ hp))
 ·rintro ks s' ⟨ys,H',e,J,rv,hw,hHc,hkl⟩
  have hyl:ys.length=xs.length:=by rw[rv.length,hkl,hvl]
  rw[hvl]at hw;obtain⟨lt,hK,fin⟩:=wfin ys H' hyl hw;obtain⟨κ,ask1,ask2⟩:=hK.ask (A:=X.A.in1.in1) J hu rv;obtain⟨p1,p2,p3,p4,p5⟩:=J.pin (kS,seqObj "list" ks.toArray e) (ET _ (.tail _ (.head _)));obtain⟨r1,r2,r3,r4,r5⟩:=J.pin (a,seqObj "list" #[] e1) (ET _ (.head _));refine⟨e,p1,HT.xp hka r1 p1 hkl ⋯ hK.lt (λQ' h2 hQ=>ask1 Q' ⋯ hQ) (λi j Q' hi hj hQ=>ask2 i j Q' ⋯ ⋯ hQ) λp hp hs=>⟨rfl,?_⟩⟩;rw[hvl]at hp;have J0:Inv X pins σ H' s':=J.pins_of λp hp=>J.pin p (ET _ (.tail _ (.tail _ (.tail _ hp))))
  have hpins:∀it,(∀p∈X.pn++((f,fo)::pins),p.1≠it)->∀p∈X.pn++pins,p.1≠it:=λit hh p hp=>hh p (by
   rcases Fq.mp hp with hp|hp
   ·exact Hb _ hp
   ·exact ET _ (.tail _ hp))
  have J1:=old (u:=fo) J0 p2 b1 b3 b4 (hpins kS b5) (Fj λ_=>(#[]:Array Value));have J2:=old (u:=fo) J1 r2 a1 a3 a4 (hpins a a5) (Fj λ_=>Fo (p.map λi=>vs.getD i Ft));have oa:(s'.heap.update kS (Fj λ_=>(#[]:Array Value))).get? a=some (seqObj "list" #[] e1):=((Hj s'.heap kS _).2 a (E7 hka)).trans r1;obtain⟨c2,hc2⟩:∃c2,((s'.heap.update kS (Fj λ_=>(#[]:Array Value))).update a (Fj λ_=>Fo (p.map λi=>vs.getD i Ft))).get? a=some (seqObj "list" (Fo (p.map λi=>vs.getD i Ft)) c2):=⟨_,OE oa _⟩
  have hpl:=hp.length_eq;rw[Fz]at hpl;have J3:=J2.adopt (D:=a) (o:=.lst (p.map λi=>xs.getD i .non)) r2 a1 a3 a4 (hpins a a5) ⟨by rw[EE,hpl,Oj];lia,_,c2,qc g λi hi=>by rw[hvl];exact FE.mp (hp.mem_iff.mp hi),hc2⟩;exact⟨.ref a,_,J3,rfl,fin a p r2 hp hs⟩
def qe(P:Addr)(lpos:Pos)(qual:Str)(ix:List Nat)(te:TE)(t:TA):TE:=λσ H Q=>t σ H λvs H1=>∃n:Nat,vs=[.int n]/\n<64/\TabOk P lpos qual H1/\∀H2,SameX P H1 H2->TabOk P lpos qual H2->xr te ix (fQ 0 n) σ H2 Q
section
variable{te:TE}{t:TA}{p p2 pos pos2 kpos:Pos}{e a:Expr}{k:Nat}{qual:Str}
theorem Ak{Q:List Value->Shared->Prop}{lam:Expr}(h:wpAny (model X.prog X.w) X.A (eval lam X.env) (λv s'=>Q [v] s') E s):
  wpAny (model X.prog X.w) X.A (evalAll ((backToKw pos (keywordEach [⟨some "key",lam,kpos⟩] X.env)).map (·.2))) Q E s:=by
 show wpAny _ _ (evalAll ((do let v <-eval lam X.env;OH pos;pure v)::[])) _ _ s
 exact wpAny_evalAll_cons (Oh (Om h (λv s' hq=>Oh (Ot (Oi (wpAny_evalAll_nil hq)))) λ_ _ z=>z))
theorem qf(hr:Room k X.A):X.A.in1.in1.depth<recursionLimit/\X.A.in1.in1.units<cLine:=⟨hr.depth,by have:=hr.units;show X.A.units+1+1<_;lia⟩
theorem qg (c:LamOk X N x frs ix scope cl) (hc:X.calm=true) (hr:Room k X.A) (hg:Gl X "sorted") (hm:X.mg "sorted" = none) (hgr:Gl X "range") (hmr:X.mg "range" = none) (hcode:X.env.code=.ref cc) (hcd:codeHdIn X.K cc P=true) (hb:X.base.BuiltinsAt X.mg P) (ha:QA X [a] t)
  (he:∀A f c' C s H,QE (qa X N (X.env.qual++"<lambda>") scope f c' cl A C s H) body te) (hbind:∀u pm c' ctv,bindArgs (kla_fn "<lambda>" (X.env.qual++"<lambda>") params body scope cl pm (.ref c') ctv) ⟨[u],[]⟩=pure [(x,u)])
  (hdef:defaultsOf params X.env=([],[]):=by rfl) (hn:bS a=true:=by rfl):QE X (.Call (.Name "sorted" p) [.Call (.Name "range" p2) [a] [] pos2] [⟨some "key",.Lambda params body scope lpos,kpos⟩] pos) (qe P lpos (X.env.qual++"<lambda>") ix te t):=by
 refine⟨λpins s σ H Q I h=>?_⟩;refine Ow (eP I hg hm (by decide +kernel:bootBuiltins "sorted" = some (.builtin "sorted")) ?_);refine callWith_kw ?_ (by rfl) (by rfl);refine Kl (Call_ (eP I hgr hmr boot_range (FU (thn (ha.out pos2 pins s σ H _ I h) λus s1 hu=>?_) (aU hn) rfl)));obtain⟨vs,H1,I1,r1,n,rfl,hn64,T1,q⟩:=hu;obtain⟨u,rfl,ru⟩:=cG r1;obtain⟨tt,rfl⟩:=ru;refine call_range_1 (KP ?_);obtain⟨w0,w1,w2,w3,w4,w5⟩:=I1.fpOk (b:=s1.heap.objs.size) (H':=λ_=>none) (EI _) rfl;have I1':Inv X ((s1.heap.objs.size,{ cls:=.type "range",data:=.fields #[.int 0 s1.toks,.int n tt,.int 1 (s1.toks+1)] })::pins) σ H1 { s1 with heap:=s1.heap.push { cls:=.type "range",data:=.fields #[.int 0 s1.toks,.int n tt,.int 1 (s1.toks+1)] },toks:=s1.toks+1+1 }:=by
  have K:=I1.kept (h':=s1.heap.push { cls:=.type "range",data:=.fields #[.int 0 s1.toks,.int n tt,.int 1 (s1.toks+1)] }) (t':=s1.toks+1+1) λb o e=>EJ _ e
  refine K.pins_of λp hp=>?_
  rcases EO.mp hp with rfl|hp
  ·exact⟨E5 _ rfl,I1.hok.fresh (EI _),w1,w2,λv z=>by cases z⟩
  ·exact K.pin p (ET _ hp)
 refine Ak (tV c.clos I1' hcode hcd hb hdef T1 λf c' pm ctv H2 s2 I2 T2 sx hc2=>?_);obtain⟨g1,g2⟩:=qf hr;refine thn (qd (l:=s1.heap.objs.size) (xs:=fQ 0 n) c hc g1 g2 I2 hc2 (λu=>hbind u pm c' ctv) (λC s H=>(he _ _ _ C s H).out) (λQ' hQ=>?_) (q H2 sx T2)) λv s3 hv=>?_
 ·have hrg:=(I2.pin (s1.heap.objs.size,{ cls:=.type "range",data:=.fields #[.int 0 s1.toks,.int n tt,.int 1 (s1.toks+1)] }) (ET _ (.tail _ (.head _)))).1
  refine HT.jw (n:=n) (I2.ok.hd hc) hrg (small_one ⋯ ⋯ ⋯ ⋯) (by rw[rangeSize_one];split<;>lia) ⋯ λh' tk acc k hit=>hQ _ h' tk ?_ k
  obtain⟨hz,hit⟩:=hit;refine pK (by simp[fQ,hz]) λk x w a b=>?_
  have hk':k<n:=by have:=(EM.mp a).1;simpa [fQ]using this
  unfold fQ at a;rw[EN,Ga hk']at a;obtain rfl:=EY a;obtain⟨t2,rfl⟩:=hit k w (by simpa using b);refine⟨t2,?_⟩;rw[MV,Int.natCast_add];rfl
 ·obtain⟨y,H',J,ry,hq⟩:=hv
  exact⟨y,H',J.pins_of λp hp=>J.pin p (ET _ (.tail _ hp)),ry,hq⟩
end
end
theorem qh{w:World}{K:EG}{mg mb:Str->Option Value}{CX:CXT}{fa c Pt:Addr}{fd:FuncData}{sp:Sp}{s₁:Shared}{vs:List Value}{ns:List Int}
  (KX:K.In s₁.heap) (hns:s₁.heap.Ns mainGlobals mg) (hb:s₁.heap.Ns builtinsNs mb) (hbb:∀x:Str,x≠"__name__"->mb x=bootBuiltins x) (hlim:s₁.heap.NoLimit) (hg:s₁.gens=#[])
  (hbm:∃bm ob,mg "__builtins__" = some (.ref bm)/\bm≠builtinsNs/\s₁.heap.get? bm=some ob/\ob.cls=.type "module"/\ob.dict=some builtinsNs/\ob.data=.plain)
  (hcd:CodeHd s₁.heap c Pt) (hT:s₁.heap.get? Pt=some (tabObj #[])) (hKP:K.lookup Pt=none)
  (ha:s₁.heap.get? a=some { cls:=.type "list",data:=.seq vs.toArray }) (hi:Ou vs ns) (hl:ns.length<=sizeLine) (hr:Room k callerA)
  (F:∀base:Heap,K.In base->base.Ns mainGlobals mg->base.BuiltinsAt mg Pt->FnOk P w K mg base CX k fa fd [x] sp) (hbind:∀(s:Shared) (u:Value),BindsTo s fd ⟨[u],[]⟩ [(x,u)])
  (hsp:∀H:Hp,H Pt=some (.tbl #[])->SqL K H a (ns.map N7)->sp [.ref a] H (λv _=>v=.bl true) λ_ _ _=>False)
  (hCX:∀H e s',CX [] H s₁ (λ_ _ _=>False) e s'->False) :
  codeAny (model P w) callerA (.call (.ref fa) ⟨[.ref a],[]⟩) (λr s'=>r=.ok (.ret (.bool true))/\OldK s₁.heap s'.heap/\s'.os=s₁.os/\AllBare s'.gens) s₁:=by
 have rv:=j6 hi;have lenV:=hi.length;have haP:a≠Pt:=λz=>by rw[z,hT]at ha;cases ha
 have core:∀H:Hp,H Pt=some (.tbl #[])->(∀b,H b=none\/b=Pt\/∃o xs,H b=some (.frz o (.lst xs)))->SqL K H a (ns.map N7)->HOk P w H s₁.heap->(∀b,H b≠none->b=a\/b=Pt)->(H a≠none->K.lookup a=none)->
   codeAny (model P w) callerA (.call (.ref fa) ⟨[.ref a],[]⟩) (λr s'=>r=.ok (.ret (.bool true))/\OldK s₁.heap s'.heap/\s'.os=s₁.os/\AllBare s'.gens) s₁:=by
  intro H hP hO hS hok hA hK;have base_of:∀{b:Addr}{o:Obj},s₁.heap.get? b=some o->H b=none->(rV s₁.heap H).get? b=some o:=λe n=>se e n
  have noA:∀{b:Addr}{o:Obj},s₁.heap.get? b=some o->(∀its n,o.data≠.seq its n)->(∀fs,o.data≠.fields fs)->H b=none:=λ{b o} e d1 d2=>by
   cases q:H b with
   | none=>rfl
   | some u=>
    rcases hA b (by rw[q];simp)with e'|e'
    ·subst e'
     rw[ha]at e;cases e;exact absurd rfl (d1 _ _)
    ·subst e'
     rw[hT]at e;cases e;exact absurd rfl (d2 _)
  have nsK:∀{b:Addr}{m:Str->Option Value},s₁.heap.Ns b m->(rV s₁.heap H).Ns b m:=λ{b m} ⟨o,es,ep,e,d,r⟩=>⟨o,es,ep,base_of e (noA e (λ_ _ z=>by rw[d]at z;cases z) (λ_ z=>by rw[d]at z;cases z)),d,r⟩
  have hKb:K.In (rV s₁.heap H):=λb o e=>base_of (KX b o e) (by
   cases q:H b with
   | none=>rfl
   | some u=>
    rcases hA b (by rw[q];simp)with e'|e'
    ·subst e'
     rw[hK (by rw[q];simp)]at e;cases e
    ·subst e'
     rw[hKP]at e;cases e)
  have hM:Mod K mg (rV s₁.heap H):=⟨hKb,nsK hns,⟨mb,nsK hb,hbb⟩,let⟨mc,h1,h2⟩:=hlim;⟨mc,nsK h1,h2⟩⟩;have hBA:(rV s₁.heap H).BuiltinsAt mg Pt:=by
   obtain⟨bm,ob,b1,b2,b3,b4,b5,b6⟩:=hbm;refine⟨bm,ob,b1,b2,λz=>?_,λz=>?_,base_of b3 (noA b3 (λ_ _ z=>by rw[b6]at z;cases z) (λ_ z=>by rw[b6]at z;cases z)),b4,b5,b6⟩
   ·obtain⟨o,es,ep,e,d,_⟩:=hns
    rw[z,e]at b3;cases b3;rw[d]at b6;cases b6
   ·rw[z,hT]at b3;cases b3;cases b6
  have e0:Env0 P w K mg (rV s₁.heap H) callerA [] s₁ H:=⟨rfl,hM,λb o e=>vI e,GB (oy _ _),trivial,λb hb=>absurd (show b∈([]:List Addr)from hb) (by simp),hok,.of_eq hg⟩;refine OJ ((F _ hKb (nsK hns) hBA).run callerA [] s₁ H ⟨[.ref a],[]⟩ [.ref a] [.ref a] _ _ hr e0 (hbind s₁ (.ref a)) (.cons rfl .nil) (hsp H hP hS)) λr s' h=>?_
  cases r with
  | error e=>exact(hCX H e s' h).elim
  | ok fl=>
   cases fl with
   | next=>exact F6 h
   | brk=>exact F6 h
   | cont=>exact F6 h
   | ret u=>
    obtain⟨v,H',os,bare,un,hok',r',q⟩:=h;have q':v=.bl true:=q;subst q';obtain rfl:u=Ja true:=r';refine⟨rfl,⟨λb o e=>?_,λb o e=>un.there b o e (by simp)⟩,os,bare⟩;cases q:H b with
    | none=>exact .inl (un.keep b o e q (by intro z;exact absurd (show b∈([]:List Addr)from z) (by simp)) (by simp))
    | some u=>
     rcases hO b with z|z|⟨ob,xs,z⟩
     ·rw[q]at z;cases z
     ·subst z
      rw[hT]at e;cases e;obtain⟨more,em⟩:=un.tbls b #[] hP;exact .inr (.inl ⟨(hcd.tab hT).isCodeTable,rfl,#[],more,rfl,hok' b _ em⟩)
     ·have z2:=un.frzs b ob _ z
      obtain⟨e1,_⟩:=hok b _ z;obtain⟨e2,_⟩:=hok' b _ z2;rw[e]at e1;cases e1;exact .inl e2
 cases hk:K.lookup a with
 | some o=>
  have e:=KX a o hk;rw[ha]at e;cases e;refine core (λb=>if b=Pt then some (.tbl #[])else none) (if_pos rfl) (λb=>?_) (.inr ⟨_,vs.toArray,_,hk,rfl,rfl,rfl,by rw[EW,lenV];exact hl,by simpa using rv⟩) (λb u z=>?_) (λb z=>?_) (λz=>absurd (if_neg haP) z)
  ·by_cases hb:b=Pt
   ·exact .inr (.inl hb)
   ·exact .inl (if_neg hb)
  ·by_cases hb:b=Pt
   ·have z':=(if_pos hb).symm.trans z
    cases z';subst hb;exact hT
   ·have z':=(if_neg hb).symm.trans z
    cases z'
  ·by_cases hb:b=Pt
   ·exact .inr hb
   ·exact absurd (if_neg hb) z
 | none=>
  have e1:∀b,(if b=Pt then some (.tbl #[])else if b=a then some (.frz { cls:=.type "list",data:=.seq vs.toArray } (.lst (ns.map N7)))else none:Option HO)=if b=Pt then some (.tbl #[])else if b=a then some (.frz { cls:=.type "list",data:=.seq vs.toArray } (.lst (ns.map N7)))else none:=λb=>rfl
  have ea:(if a=Pt then some (.tbl #[])else if a=a then some (.frz { cls:=.type "list",data:=.seq vs.toArray } (.lst (ns.map N7)))else none:Option HO)=some (.frz { cls:=.type "list",data:=.seq vs.toArray } (.lst (ns.map N7))):=by rw[if_neg haP,if_pos rfl]
  refine core (λb=>if b=Pt then some (.tbl #[])else if b=a then some (.frz { cls:=.type "list",data:=.seq vs.toArray } (.lst (ns.map N7)))else none) (if_pos rfl) (λb=>?_) (.inl (.inr ⟨{ cls:=.type "list",data:=.seq vs.toArray },ea⟩)) (λb u z=>?_) (λb z=>?_) (λ_=>hk)
  ·by_cases hb:b=Pt
   ·exact .inr (.inl hb)
   ·by_cases hb2:b=a
    ·exact .inr (.inr ⟨_,_,by rw[hb2];exact ea⟩)
    ·exact .inl (by show(if b=Pt then _ else _)=_;rw[if_neg hb,if_neg hb2])
  ·by_cases hb:b=Pt
   ·have z':=(if_pos hb).symm.trans z
    cases z';subst hb;exact hT
   ·by_cases hb2:b=a
    ·subst hb2
     have z':=ea.symm.trans z;cases z';exact⟨ha,by rw[EE];exact hl,vs,_,rv,ha⟩
    ·have z':(if b=Pt then some (.tbl #[])else if b=a then some (.frz { cls:=.type "list",data:=.seq vs.toArray } (.lst (ns.map N7)))else none:Option HO)=some u:=z
     rw[if_neg hb,if_neg hb2]at z';cases z'
  ·by_cases hb:b=Pt
   ·exact .inr hb
   ·by_cases hb2:b=a
    ·exact .inl hb2
    ·exact absurd (show(if b=Pt then some (.tbl #[])else if b=a then some (.frz { cls:=.type "list",data:=.seq vs.toArray } (.lst (ns.map N7)))else none:Option HO)=none by rw[if_neg hb,if_neg hb2]) z
theorem tW{K:EG}{Pt:Addr}(X:K.In h)(hT:h.get? Pt=some (tabObj #[]))(hK:noTabs K=true):K.lookup Pt=none:=by
 cases e:K.lookup Pt with
 | none=>rfl
 | some o=>
  have e2:=X _ _ e;rw[hT]at e2;cases e2;exact absurd (F4.mp hK _ (mem_of_lookupK e)) E9
theorem tX{l:JD}{q:Program}{loose:List Str}{XP:(Str->Option Value)->Heap->Prop}{YP:World->Heap->Prop}{d:DefRec}{K:Params->EG}{CX:World->CXT}{sp:World->Addr->Sp}{Pt:Addr}
  (hn:l.most=some n) (hn2:n<=sizeLine) (hdf:d.params.defaults=[]) (hr:Room k callerA)
  (hY:∀(w:World) (h:Heap),YP w h->(K w.params).In h)
  (hYT:∀(w:World) (h:Heap),YP w h->h.get? Pt=some (tabObj #[])) (hnt:∀w:World,noTabs (K w.params)=true)
  (F:∀(w:World) (mg:Str->Option Value) (fa:Addr) (h:Heap),(K w.params).In h->h.Ns mainGlobals mg->mg d.name=some (.ref fa)->
   ∃fd:FuncData,(∃c,codeHdIn (K w.params) c Pt=true)/\(∀(s:Shared) (u:Value),BindsTo s fd ⟨[u],[]⟩ [(x,u)])/\
    ∀base:Heap,(K w.params).In base->base.Ns mainGlobals mg->base.BuiltinsAt mg Pt->FnOk l.prog w (K w.params) mg base (CX w) k fa fd [x] (sp w Pt))
  (hsp:∀(w:World) (H:Hp) (a:Addr) (ns:List Int),ns.length<=n->H Pt=some (.tbl #[])->SqL (K w.params) H a (ns.map N7)->sp w Pt [.ref a] H (λv _=>v=.bl true) λ_ _ _=>False)
  (hCX:∀(w:World) (H:Hp) (s:Shared) (e:Value) (s':Shared),CX w [] H s (λ_ _ _=>False) e s'->False) :
  Mh q loose XP YP l.row.toRowW d [] (λf vs=>Lx f vs):=by
 refine Att.lj hn hdf λw s₀ s₁ mg mb fa o pm cd doc a vs ns G Y ho hd hcd hmg hobj hints hlen hg=>?_
 have KX:=hY w _ Y;obtain⟨fd,⟨c,hchd⟩,hb,hF⟩:=F w mg fa _ KX G.T.g hmg;have hT:=hYT w _ Y;have hC:=codeHd_of_K KX hchd;exact qh KX G.T.g G.T.b G.T.builtins G.T.nolimit hg G.T.bmain hC hT (tW KX hT (hnt w)) hobj hints (FB hlen hn2) hr hF hb (λH hP hS=>hsp w H a ns hlen hP hS) λH e s'=>hCX w H s₁ e s'
section
variable{P:Program}{w:World}{K:EG}{mg:Str->Option Value}{base:Heap}
theorem Fun.okC{st:Stmt}{f cc:Addr}{fd:FuncData}{N ps:List Str}{sp:Sp}(F:Fun K x qual st f fd)(hcc:fd.code=.ref cc)(S:FnScope N ps (aL st))(len:∀vs H Q E,sp vs H Q E->vs.length=ps.length)
  (hbody:∀(A:Around) (outer:List Env) (s:Shared) (H:Hp) (vs:List V) (Q:VK) (E:XK),Room k (A.deeper (envOfC qual (aL st) s.heap.objs.size f (.ref cc)))->sp vs H Q E->
   ∃t,QB (sH CX0 P w K mg base N qual (aL st) f (.ref cc) A outer s H E).nox (cB st) t/\t { nx:=λ_ H'=>Q .non H',rt:=Q } (dq N vs) H):FnOk P w K mg base CX0 (k+1) f fd ps sp:=by
 obtain⟨oc,od,kV,doc,pm,an,cdv,ct,osl,rfl,lk,hcd⟩:=F.ex;have e:cdv=.ref cc:=hcc;subst e;refine zu lk hcd S len λA outer s H vs Q E hr hsp=>?_
 obtain⟨t,h,q⟩:=hbody A outer s H vs Q E hr hsp;exact⟨t,h.out.nox,q⟩
end
section
variable{X:Cx}{o:Expr}{to:TE}{pos apos cpos:Pos}
end
end L2
namespace L2
open PySem PySem.Spec PyProof.Rows
inductive StrA (H:Hp):V->Str->Prop where
 | non:StrA H .non "None"
 | bl (b:Bool):StrA H (.bl b) (if b then "True" else "False")
 | int (i:Int) (h:i.natAbs<10 ^ 22):StrA H (.int i) (toString i)
 | str (y:Str):StrA H (.str y) y
 | dat {a:Addr}{d:PyData}(h:DatM 3 H (.ref a) d) (hw:d.weight<=2 ^ 19):StrA H (.ref a) d.shown
def CM:List V->Hp->VK->Prop:=λxs H Q=>∃x y,xs=[x]/\StrA H x y/\Q (.str y) H
section
variable{X:Cx}
theorem lD (hg:X.A.guards=some []) (hu:X.A.units+64<cLine):QC X (.type "str") CM:=by
 refine⟨λpins s σ H xs us Q I r h=>?_⟩;obtain⟨x,y,rfl,hS,q⟩:=h;obtain⟨u,rfl,ru⟩:=cG r;cases hS with
 | non=>cases ru;exact P.str_of_none ⟨.str "None",H,I.tok _,⟨_,rfl⟩,q⟩
 | bl b=>cases ru;exact P.str_of_bool ⟨.str _,H,I.tok _,⟨_,rfl⟩,q⟩
 | int i h=>
  obtain⟨t,rfl⟩:=ru;refine P.str_of_int ?_ ⟨.str _,H,I.tok _,⟨_,rfl⟩,q⟩;by_cases h0:i.natAbs=0
  ·rw[h0];decide
  ·have:i.natAbs<2 ^ 80:=GN h (by decide)
   have:=(JI h0).mpr this;lia
 | str y=>obtain⟨t,rfl⟩:=ru;exact P.str_of_str ⟨.str _,H,I,⟨_,rfl⟩,q⟩
 | @dat a d h hw=>exact xm hg hu pins s σ H [.ref a] [u] Q I (.cons ru .nil) ⟨a,d,rfl,h,hw,q⟩
end
section
variable{K:EG}{H:Hp}{Q:VK}
end
section
variable{H:Hp}{n w:Nat}
end
section
variable{H H1 H2:Hp}
end
section
variable{H H1:Hp}{p a:Addr}{o:HO}
end
section
variable{H H1:Hp}{x:V}{os:List Nat}{a:Addr}{xs:List V}
end
section
variable{rss:List (List Nat)}{f m l:Nat}{x y:List Nat}
end
section
variable{rss:List (List Nat)}
end
section
variable{X:Cx}{pos:Pos}
end
section
variable{X:Cx}{tg a b c:Expr}{t:TA}{p pos:Pos}
end
end L2
namespace HT
open PySem PyProof.Rows PySem.W L2
section
variable{α β:Type}
end
end HT
namespace L2
open PySem PySem.Spec PyProof.Rows
section
variable{X:Cx}{pins:List (Addr×Obj)}{σ:St}{H:Hp}{s:Shared}{h':Heap}
end
noncomputable abbrev TEX:=St->Hp->VK->(Addr->Option Addr->Hp->Prop)->Prop
section
variable{X:Cx}{st:Stmt}{sts s1 s2:List Stmt}{T1 T2:TX}{c e:Expr}{es:List Expr}{tA:TT}{te:TE}{t:TA}{pos p:Pos}{x:Str}{i:Nat}
variable{tx:TEX}
end
section
variable{X:Cx}{pins:List (Addr×Obj)}{σ:St}{H:Hp}{s:Shared}{h':Heap}
end
section
variable{P:Program}{w:World}{K:EG}{mg:Str->Option Value}{base:Heap}
end
end L2
namespace L2
open PySem PySem.Spec PyProof.Rows PySem.W
section
variable{prog:Program}{w:World}{A:Around}{E:Value->Shared->Prop}{h:Heap}{g:Array GenState}{d:Drawn}{t:Nat}{os:OsState}{K:Frag}{a C:Addr}{o:Obj}{vs:Array Value}
end
section
variable{X:Cx}
end
section
variable{X:Cx}{e:Expr}{es:List Expr}{t:TA}{np cpos pos p:Pos}{x:Str}{C:Addr}
end
section
variable{X:Cx}{pins:List (Addr×Obj)}{σ:St}{H:Hp}{s:Shared}
end
section
variable{X:Cx}{body suite:List Stmt}{b0:Stmt}{tb:TX}{ts:TS}{n x:Str}{i:Nat}{C:Addr}{np hpos pos:Pos}
end
end L2
namespace L2
open PySem PySem.Spec PyProof.Rows
section
variable{X:Cx}{v:Expr}{te:TE}{a b:Str}{p1 p2 p3 pos:Pos}{j1 j3:Nat}
end
section
variable{D:Ends}{Ex:XW}{σ:St}{H:Hp}{Q:VK}{K:EG}{i:Nat}{C:Addr}
end
section
variable{X:Cx}
end
section
variable{H H1:Hp}{x:V}{n:Nat}
end
theorem bF:QOp X (Ov .Add) (λx y H Q=>∃i j,x=.str i/\y=.str j/\i.length+j.length<=sizeLine/\Q (.str (i++j)) H):=⟨nF⟩
theorem dU:QC X (.type "str") (λxs H Q=>∃i:Int,xs=[.int i]/\i.natAbs.log2<1920/\Q (.str (toString i)) H):=⟨jU⟩
end L2
namespace HT
open PySem PyProof.Rows PySem.W L2
noncomputable def lt2(k m:List Int×List Int):Bool:=if k.1=m.1 then bH k.2 m.2 else bH k.1 m.1
section
variable{prog:Program}{w:World}{A:Around}{E:Value->Shared->Prop}{s:Shared}
end
end HT
namespace L2
open PySem PySem.Spec PyProof.Rows
section
variable{X:Cx}
end
section
variable{X:Cx}{o e value:Expr}{es:List Expr}{f m x:Str}{pos pos' tpos apos p:Pos}{ta tv:TE}{t:TA}{C g:Addr}{CX:CXT}{k:Nat}{fd:FuncData}{ps:List Str}{sp:Sp}{E:XK}
theorem CN{K:EG}(hK:X.K=K:=by rfl):QOp X (Oo .In) (rIn K false):=by subst hK;exact⟨oZ⟩
theorem tY{K:EG}(hK:X.K=K:=by rfl):QOp X (Oo .NotIn) (rIn K true):=by subst hK;exact⟨j0⟩
theorem cF{K:EG}(he:QE X e ta)(hb:Oq e f X.env (eval e X.env)=eval e X.env:=by rfl)(hK:X.K=K:=by rfl):QE X (.Attribute e f pos) (B9 K ta f):=by
 subst hK;exact⟨zm he.out hb⟩
theorem dW{K:EG}(ha:QE X o ta)(hv:QE X value tv)(hs:OC value (some (.Attribute o f pos')) pos.line X.env=pure false:=by rfl)(hK:X.K=K:=by rfl):QS X (.Assign [.Attribute o f pos'] value pos) (Ca K ta tv f):=by
 subst hK;exact⟨zo ha.out hv.out hs⟩
theorem qi{K:EG}{op:Operator}{rd:R2}(ha:QE X o ta)(hv:QE X value tv)(ho:QOp X (OF op) rd)(hK:X.K=K:=by rfl):QS X (.AugAssign (.Attribute o f tpos) op value pos) (k6 K ta tv rd f):=by
 subst hK;exact⟨oO ha.out hv.out ho.out⟩
theorem jy{pl:Sem Bool}(he:QE X o ta)(c:Cls X.K C)(hm:Meth X.K C m g)(F:FnOk X.prog X.w X.K X.mg X.base CX k g fd ps sp)(hr:Room k X.A)(hb:Binds X.K fd ps [])(hx:dM CX X E)
  (ht:eval (.Call (.Attribute o m apos) [] [] pos) X.env=(do
   let ov <-eval o X.env
   OH apos.atName
   let(q,first) <-OI [ov] (getMethod ov m pl)
   callWith pos q first (backTo pos (On [] X.env)) (backToKw pos (keywordEach [] X.env))):=by rfl) :
  QE X (.Call (.Attribute o m apos) [] [] pos) (wx C m sp [] E ta wq):=⟨sD (pl:=pl) he.out c hm F hr hb .nil hx ht⟩
theorem qj(M:Mk X.K C g)(F:FnOk X.prog X.w X.K X.mg X.base CX k g fd ps sp)(hr:Room (k+1) X.A)(hg:Gl X x)(hm:X.mg x=some (.ref C))(hb:Binds X.K fd ps [])(hx:dM CX X E)
  (ha:QA X (e::es) t) (hdb:(x == ("__debug__" : Str))=false:=by decide) (he:On (e::es) X.env=(false,eval e X.env)::On es X.env:=by rfl) (hpl:(backTo pos (On es X.env)).any (·.1)=false:=by rfl) :
  QE X (.Call (.Name x p) (e::es) [] pos) (wz C sp [] E t):=⟨wB M F hr hg hm hb .nil hx ha.out hdb he hpl⟩
end
section
variable{K:EG}{σ:St}{H:Hp}{Q:VK}{D:Ends}{ta tv:TE}{t:TA}{f m:Str}{C:Addr}{sp:Sp}{E:XK}{a dx:Addr}{fs:List (Str×V)}{v:V}
theorem DO(h:ta σ H λx H1=>∃a C dx fs v,x=.ref a/\H1 a=some (.ins C dx fs)/\Cls K C/\NoAttr K C f/\fs.lookup f=some v/\Q v H1):B9 K ta f σ H Q:=h
theorem CO(h:tv σ H λy H1=>ta σ H1 λx H2=>∃a C dx fs,x=.ref a/\H2 a=some (.ins C dx fs)/\Cls K C/\NoAttr K C f/\fs.length<1000/\D.nx σ (upd H2 a (.ins C dx (bI f y fs)))):Ca K ta tv f D σ H:=h
theorem yI {rd:R2}(h:ta σ H λx H1=>∃a C dx fs v,x=.ref a/\H1 a=some (.ins C dx fs)/\Cls K C/\NoAttr K C f/\fs.lookup f=some v/\
 tv σ H1 λy H2=>rd v y H2 λz H3=>∃dx' fs',H3 a=some (.ins C dx' fs')/\fs'.length<1000/\D.nx σ (upd H3 a (.ins C dx' (bI f z fs')))):k6 K ta tv rd f D σ H:=h
theorem CP(h:ta σ H λx H1=>∃a dx fs,x=.ref a/\H1 a=some (.ins C dx fs)/\fs.lookup m=none/\t σ H1 λvs H2=>sp (x::(vs++[])) H2 Q E):wx C m sp [] E ta t σ H Q:=h
theorem CQ(h:t σ H λvs H1=>∀x dx,H1 x=none->H1 dx=none->dx≠x->sp (.ref x::(vs++[])) (upd (upd H1 dx (.own x)) x (.ins C dx [])) (λv H2=>v=.non/\Q (.ref x) H2) E):wz C sp [] E t σ H Q:=h
theorem ko{x:V}(h1:H p=some (.lst xs))(fx:gL x=true)(fs:xs.all gL=true)(h:Q (.bl (!inV x xs)) H):rIn K true x (.ref p) H Q:=⟨p,xs,rfl,.inl (N4 h1),fx,fs,h⟩
end
def qk(x:V)(d:PyData):Prop:=(x=.non/\d=.none)\/(∃b,x=.bl b/\d=.bool b)\/(∃i:Int,x=.int i/\d=.int i)\/(∃y,x=.str y/\d=.str y/\Hq y=true)
noncomputable def DatE:Nat->Hp->V->PyData->Prop
 | 0,_,x,d=>qk x d
 | n+1,H,x,d=>qk x d\/(∃a xs ds,x=.ref a/\d=.list ds/\H a=some (.lst xs)/\xs.length=ds.length/\∀(i:Nat) u e,xs[i]? = some u->ds[i]? = some e->DatE n H u e)\/
  (∃a xs ds,x=.ref a/\d=.tuple ds/\H a=some (.tup xs)/\xs.length=ds.length/\∀(i:Nat) u e,xs[i]? = some u->ds[i]? = some e->DatE n H u e)
theorem DatE.leaf{H:Hp}{x:V}{d:PyData}(h:qk x d):∀{n:Nat},DatE n H x d
 | 0=>h
 | n+1=>.inl h
theorem DatE.str{H:Hp}{n:Nat}{y:Str}(h:Hq y=true):DatE n H (.str y) (.str y):=DatE.leaf (.inr (.inr (.inr ⟨y,rfl,rfl,h⟩)))
theorem DatE.lst{H:Hp}{n:Nat}{a:Addr}{xs:List V}{ds:List PyData}(e:H a=some (.lst xs))(hl:xs.length=ds.length)(h:∀(i:Nat) u e,xs[i]? = some u->ds[i]? = some e->DatE n H u e):DatE (n+1) H (.ref a) (.list ds):=
 .inr (.inl ⟨a,xs,ds,rfl,rfl,e,hl,h⟩)
theorem DatE.facts{H:Hp}:∀{n:Nat}{x:V}{d:PyData},DatE n H x d->d.canLay0=true/\d.depth<=n
 | n,x,d,h=>by
  have hint:qk x d->d.canLay0=true/\d.depth<=n:=by
   rintro(⟨rfl,rfl⟩|⟨b,rfl,rfl⟩|⟨i,rfl,rfl⟩|⟨y,rfl,rfl,hy⟩)
   ·exact⟨rfl,EU _⟩
   ·exact⟨rfl,EU _⟩
   ·exact⟨rfl,EU _⟩
   ·exact⟨hy,EU _⟩
  match n,h with
  | 0,h=>exact hint h
  | n+1,h=>
   rcases h with h|⟨a,xs,ds,rfl,rfl,ha,hl,hi⟩|⟨a,xs,ds,rfl,rfl,ha,hl,hi⟩
   ·exact hint h
   ·have hd:∀d∈ds,d.canLay0=true/\d.depth<=n:=λd hd=>by
     obtain⟨i,e⟩:=Gm hd;have hlt:=cE e;exact DatE.facts (hi i (xs[i]'⋯) d (EF _) e)
    exact⟨gW (P:=LZ) (PA:=KZ) rfl (λ_ _=>rfl) λd h=>(hd d h).1,He (cK λd h=>(hd d h).2)⟩
   ·have hd:∀d∈ds,d.canLay0=true/\d.depth<=n:=λd hd=>by
     obtain⟨i,e⟩:=Gm hd;have hlt:=cE e;exact DatE.facts (hi i (xs[i]'⋯) d (EF _) e)
    exact⟨gW (P:=LZ) (PA:=KZ) rfl (λ_ _=>rfl) λd h=>(hd d h).1,He (cK λd h=>(hd d h).2)⟩
section
variable{X:Cx}{pins:List (Addr×Obj)}{σ:St}{H:Hp}{s:Shared}
theorem DatE.reads(I:Inv X pins σ H s):∀{n:Nat}{x:V}{d:PyData}{v:Value},DatE n H x d->RelV x v->∃as,Reads s.heap v d as
 | n,x,d,v,h,r=>by
  have hint:qk x d->∃as,Reads s.heap v d as:=by
   rintro(⟨rfl,rfl⟩|⟨b,rfl,rfl⟩|⟨i,rfl,rfl⟩|⟨y,rfl,rfl,_⟩)
   ·cases r;exact⟨_,.none⟩
   ·cases r;exact⟨_,.bool b⟩
   ·obtain⟨t,rfl⟩:=r;exact⟨_,.int i t⟩
   ·obtain⟨t,rfl⟩:=r;exact⟨_,.str y t⟩
  match n,h with
  | 0,h=>exact hint h
  | n+1,h=>
   rcases h with h|⟨a,xs,ds,rfl,rfl,ha,hl,hi⟩|⟨a,xs,ds,rfl,rfl,ha,hl,hi⟩
   ·exact hint h
   ·cases r
    obtain⟨its,m,rv,ho,hz⟩:=I.lst ha;obtain⟨as,h1⟩:=cL (R:=DatE n H) (λx v d h r=>DatE.reads I h r) rv hl hi;exact⟨_,.list ho rfl rfl (by simpa using h1)⟩
   ·cases r
    obtain⟨its,rv,⟨ob,ho,hc,m,hd⟩,hz⟩:=I.tuple (N6 ha);obtain⟨as,h1⟩:=cL (R:=DatE n H) (λx v d h r=>DatE.reads I h r) rv hl hi;exact⟨_,.tuple ho hc hd (by simpa using h1)⟩
def DP:R2:=λx y H Q=>∃(n:Nat) (d e:PyData),DatE n H x d/\DatE n H y e/\n<=32/\Q (.bl (PyData.eqv d e)) H
theorem CS(hu:X.A.units+64<cLine):QOp X (Oo .Eq) DP:=by
 refine⟨λpins s σ H x y v u Q I rx ry h=>?_⟩;obtain⟨n,d,e,hd,he,hn,q⟩:=h;obtain⟨as,r1⟩:=hd.reads I rx;obtain⟨bs,r2⟩:=he.reads I ry;have f1:=hd.facts;have f2:=he.facts;exact Mb r1 r2 f1.1 f2.1 (by have:=Nat.min_le_left d.depth e.depth;have:=f1.2;lia) ⟨.bl _,H,I,rfl,q⟩
end
section
variable{H:Hp}{Q:VK}{x y:V}{n:Nat}{d e:PyData}
theorem ql(h1:DatE n H x d)(h2:DatE n H y d)(hn:n<=32)(h:Q (.bl true) H):DP x y H Q:=⟨n,d,d,h1,h2,hn,by rw[Nm d h1.facts.1];exact h⟩
end
end L2
namespace HT
open PySem PyProof.Rows PySem.W L2
section
variable{prog:Program}{w:World}{A:Around}{E:Value->Shared->Prop}{s:Shared}
end
end HT
namespace L2
open PySem PySem.Spec PyProof.Rows PySem.W
section
variable{X:Cx}{e:Expr}{t:TA}{p pos kpos cp:Pos}{k:Nat}{j:Nat}
theorem Am{s:Shared}{Q:List Value->Shared->Prop}{a:Expr}(h:wpAny (model X.prog X.w) X.A (eval a X.env) (λv s'=>Q [v] s') E s):
  wpAny (model X.prog X.w) X.A (evalAll ((backToKw pos (keywordEach [⟨some x,a,kpos⟩] X.env)).map (·.2))) Q E s:=by
 show wpAny _ _ (evalAll ((do let v <-eval a X.env;OH pos;pure v)::[])) _ _ s
 exact wpAny_evalAll_cons (Oh (Om h (λv s' hq=>Oh (Ot (Oi (wpAny_evalAll_nil hq)))) λ_ _ z=>z))
end
end L2
namespace L2
open PySem PySem.Spec PyProof.Rows
section
variable{qs:List (Nat×Nat)}{b:Nat}{st:HW}
end
section
variable{qs:List (Nat×Nat)}{b:Nat}{st:HW}
end
theorem mP(f:Str)(v x:V)(r:List (Str×V)):bI f v ((f,x)::r)=(f,v)::r:=by rw[bI,if_pos rfl]
theorem aS{f g:Str}(v x:V)(r:List (Str×V))(h:¬g=f):bI f v ((g,x)::r)=(g,x)::bI f v r:=by rw[bI,if_neg h]
theorem dX{f:Str}{r:List (Str×V)}:Gc f ((f,v)::r)=some v:=by simp[Gc]
theorem bB{f g:Str}{r:List (Str×V)}(h:¬f=g):Gc f ((g,v)::r)=Gc f r:=by
 have:(f == g)=false:=by simpa using h
 simp[Gc,this]
section
variable(pa:Addr)(hv v:V)(ma ea:Addr)(n m:Int)
end
section
variable{C:Addr}{H H1:Hp}{w pa ma ea:Addr}{vs:List V}{hv:V}{st:HW}
end
theorem dC{ns:List Nat}{f:Nat}(h:f<ns.length):ns[f]? = some (ns.getD f 0):=by
 rw[EH,EF h];rfl
end L2
namespace HT
open PySem PyProof.Rows PySem.W L2
section
open PySem.SeqAt
open PySem.AutoSeq1 (wpAny_loadPart')
open PySem.MeetsSeq PySem.MeetsSeq2 PySem.MeetsSeq3
end
section
variable{prog:Program}{w:World}{A:Around}{E:Value->Shared->Prop}{s:Shared}
end
end HT
namespace L2
open PySem PySem.Spec PyProof.Rows
section
variable{X:Cx}
end
section
variable{prog:Program}{w:World}{A:Around}{R:Result->Shared->Prop}{s:Shared}{scope:Scope}
theorem jz(elt target iter target2 iter2:Expr)(scope:Scope)(pos:Pos)(it acc:Value)(env:Env):
  compTurn (.ListComp elt [⟨target,iter,[],0⟩,⟨target2,iter2,[],0⟩] scope pos) 0 it acc env=(OH iter.pos >>= λ_=>pyNext it >>= λr=>match r with
   | none=>pure (.done .next)
   | some v=>letOwnedTupleGo target it v >>= λ_=>assign target env v >>= λ_=>
    eval iter2 env >>= λx=>OH iter2.pos >>= λ_=>Ol iter2 env x >>= λx=>OI [x] (pyIter x) >>= λi2=>runOwn (.compStart (.ListComp elt [⟨target,iter,[],0⟩,⟨target2,iter2,[],0⟩] scope pos) 1 i2 acc env) env >>= λ_=>
     again (.compLoop (.ListComp elt [⟨target,iter,[],0⟩,⟨target2,iter2,[],0⟩] scope pos) 0 it acc env)):=by rfl
theorem jA(elt target iter target2 iter2:Expr)(scope:Scope)(pos:Pos)(it acc:Value)(env:Env):
  compTurn (.ListComp elt [⟨target,iter,[],0⟩,⟨target2,iter2,[],0⟩] scope pos) 1 it acc env=(OH iter2.pos >>= λ_=>pyNext it >>= λr=>match r with
   | none=>pure (.done .next)
   | some v=>letOwnedTupleGo target2 it v >>= λ_=>assign target2 env v >>= λ_=>
    (eval elt env >>= λx=>call (.builtin "list.append") [acc,x] >>= λ_=>pure ()) >>= λ_=>
     again (.compLoop (.ListComp elt [⟨target,iter,[],0⟩,⟨target2,iter2,[],0⟩] scope pos) 1 it acc env)):=by rfl
theorem iL{elt target iter target2 iter2 pos it acc env}
  (h0:codeAny (model prog w) A (.compLoop (.ListComp elt [⟨target,iter,[],0⟩,⟨target2,iter2,[],0⟩] scope pos) 1 it acc env) R s)
  (h:wpAny (model prog w) A (pyIter it) (λit' s'=>codeAny (model prog w) A (.compLoop (.ListComp elt [⟨target,iter,[],0⟩,⟨target2,iter2,[],0⟩] scope pos) 1 it' acc env) R s')
   (notedBy (model prog w) A env λx s'=>R (.error x) s') s) :
  codeAny (model prog w) A (.compStart (.ListComp elt [⟨target,iter,[],0⟩,⟨target2,iter2,[],0⟩] scope pos) 1 it acc env) R s:=by
 refine codeAny_of_tree ?_;show wpAny _ _ ((compStart (.ListComp elt [⟨target,iter,[],0⟩,⟨target2,iter2,[],0⟩] scope pos) 1 it acc env).onRaise (λx=>do noteFrame x env;OH theWindowsPlace)) _ _ s
 refine wpAny_notedAt ?_;unfold compStart;show wpAny _ _ (ask >>= _) _ _ s
 refine Oh (wpAny_askSetting (wpAny_ite ?_));split
 ·first
   | exact Oh (Oi (Oi (JE rfl h0)))
   | exact Oi (JE rfl h0)
 ·first
   | exact Oh (wpAny_rule (Oh (Ot (Oh (Om h (λit' s' h'=>Oi (JE rfl h')) λ_ _ x=>x)))))
   | (refine Oh (wpAny_rule ?_);show wpAny _ _ (OH iter2.pos >>= _) _ _ s;exact Oh (Ot (Oh (Om h (λit' s' h'=>Oi (JE rfl h')) λ_ _ x=>x))))
theorem lE{elt target iter target2 iter2:Expr}{pos:Pos}{env:Env}(I:Nat->Shared->Prop)
  (turn:∀n s,I n s->wpAny (model prog w) A (pyNext it) (λr s1=>match r with
   | none=>R (.ok .next) s1
   | some v=>wpAny (model prog w) A (letOwnedTupleGo target2 it v) (λ_ s1'=>wpAny (model prog w) A (assign target2 env v) (λ_ s2=>wpAny (model prog w) A (eval elt env) (λx s3=>
     wpAny (model prog w) A (call (.builtin "list.append") [acc,x]) (λ_ s4=>∃m,m<n/\I m s4) (λ_ _=>False) s3)
     (λ_ _=>False) s2) (λ_ _=>False) s1') (λ_ _=>False) s1) (λ_ _=>False) s)
  (n:Nat) (h:I n s) :
  codeAny (model prog w) A (.compLoop (.ListComp elt [⟨target,iter,[],0⟩,⟨target2,iter2,[],0⟩] scope pos) 1 it acc env) R s:=by
 have up:∀{α:Type}{t:Sem α}{Q Q':α->Shared->Prop}{E:Value->Shared->Prop}{s:Shared},wpAny (model prog w) A t Q (λ_ _=>False) s->(∀a s,Q a s->Q' a s)->wpAny (model prog w) A t Q' E s:=λh hq=>Om h hq λ_ _ f=>f.elim
 refine codeAny_loop rfl I (λn s hI=>?_) n h;show wpAny _ _ ((compTurn (.ListComp elt [⟨target,iter,[],0⟩,⟨target2,iter2,[],0⟩] scope pos) 1 it acc env).onRaise (λx=>do noteFrame x env;theTreesLotGoes x)) _ _ s
 refine wpAny_noted ?_;rw[jA];refine Oh (Ot (Oh (up (turn n s hI) (λr s1 h1=>?_))));cases r with
 | none=>exact Oi h1
 | some v=>
  refine Oh (up h1 λ_ s1' h1'=>?_);exact Oh (up h1' (λ_ s2 h2=>Oh (Oh (up h2 (λx s3 h3=>Oh (up h3
   (λ_ s4 h4=>Oi (Oi ⟨rfl,h4⟩))))))))
theorem kq{target2:Expr}{env:Env}(hs:∀x,Ol iter2 env x=pure x)(I:Nat->Shared->Prop)
  (turn:∀n s,I n s->wpAny (model prog w) A (pyNext it) (λr s1=>match r with
   | none=>R (.ok .next) s1
   | some v=>wpAny (model prog w) A (letOwnedTupleGo target it v) (λ_ s1'=>wpAny (model prog w) A (assign target env v) (λ_ s2=>wpAny (model prog w) A (eval iter2 env) (λx s3=>
     wpAny (model prog w) A (pyIter x) (λi2 s4=>codeAny (model prog w) A (.compStart (.ListComp elt [⟨target,iter,[],0⟩,⟨target2,iter2,[],0⟩] scope pos) 1 i2 acc env) (λr s'=>match r with | .ok _=>∃m,m<n/\I m s' | .error _=>False) s4) (λ_ _=>False) s3)
     (λ_ _=>False) s2) (λ_ _=>False) s1') (λ_ _=>False) s1) (λ_ _=>False) s)
  (n:Nat) (h:I n s) :
  codeAny (model prog w) A (.compLoop (.ListComp elt [⟨target,iter,[],0⟩,⟨target2,iter2,[],0⟩] scope pos) 0 it acc env) R s:=by
 have up:∀{α:Type}{t:Sem α}{Q Q':α->Shared->Prop}{E:Value->Shared->Prop}{s:Shared},wpAny (model prog w) A t Q (λ_ _=>False) s->(∀a s,Q a s->Q' a s)->wpAny (model prog w) A t Q' E s:=λh hq=>Om h hq λ_ _ f=>f.elim
 refine codeAny_loop rfl I (λn s hI=>?_) n h;show wpAny _ _ ((compTurn (.ListComp elt [⟨target,iter,[],0⟩,⟨target2,iter2,[],0⟩] scope pos) 0 it acc env).onRaise (λx=>do noteFrame x env;theTreesLotGoes x)) _ _ s
 refine wpAny_noted ?_;rw[jz];refine Oh (Ot (Oh (up (turn n s hI) (λr s1 h1=>?_))));cases r with
 | none=>exact Oi h1
 | some v=>
  refine Oh (up h1 λ_ s1' h1'=>?_);refine Oh (up h1' λ_ s2 h2=>Oh (up h2 λx s3 h3=>Oh (Ot ?_)));rw[hs];refine Oh (Oi (Oh (Ox (up h3 λi2 s4 h4=>Oh (wpAny_runOwn ?_)))));refine OJ h4 λr s5 h5=>?_
  cases r with
  | ok f=>exact Oi ⟨rfl,h5⟩
  | error e=>exact h5.elim
end
def qm(wi:TI)(g:TG)(wi2:TI)(g2:TG)(te:TE)(tgs:List Str)(ix:List Nat):TE:=λσ H Q=>wi σ H λJ H1=>
 ∃W:Nat->Nat->List V->St->Hp->Prop,(∃m,W 0 m [] (dO tgs ix σ) H1)/\∀i m xs σc H,W i m xs σc H->xs.length<sizeLine/\
  ((J.stop i H/\∀p,H p=none->Q (.ref p) (upd H p (.lst xs)))\/(J.go i H/\∀x H',J.yld i H x H'->g x σc H' λσ2 H2=>wi2 σ2 H2 λJ2 H3=>
   ∃U:Nat->Nat->List V->St->Hp->Prop,(∃n,U 0 n xs σ2 H3)/\∀j n ys σd H,U j n ys σd H->ys.length<sizeLine/\
    ((J2.stop j H/\∃m',m'<m/\W (i+1) m' ys σd H)\/(J2.go j H/\∀x H',J2.yld j H x H'->g2 x σd H' λσ4 H4=>te σ4 H4 λy H5=>∃n',n'<n/\U (j+1) n' (ys++[y]) σ4 H5))))
section
variable{X:Cx}{N tgs frs:List Str}{ix:List Nat}{scope:Scope}{cl:List (Str×Addr)}
theorem tZ{tg2:Expr}{wi2:TI}{g2:TG}{te:TE}(c:CompOk X N tgs frs ix scope cl)(hc:X.calm=true)(hi:PI X tg iter wi)
  (hg:∀fp C s H,PG (ay X N scope cl fp C s H) tg g) (hi2:∀fp C s H,PI (ay X N scope cl fp C s H) tg2 iter2 wi2) (hg2:∀fp C s H,PG (ay X N scope cl fp C s H) tg2 g2) (he:∀fp C s H,PE (ay X N scope cl fp C s H) elt te)
  (hs:∀x,Ol iter X.env x=pure x:=by intro _;rfl) (hs2:∀env x,Ol iter2 env x=pure x:=by intro _ _;rfl) :
  PE X (.ListComp elt [⟨tg,iter,[],0⟩,⟨tg2,iter2,[],0⟩] scope pos) (qm wi g wi2 g2 te tgs ix):=by
 intro pins s σ H Q I h;rw[eval_ListComp];refine wpAny_comprehension_free (use:=none) rfl hs c.clos c.kind c.names (thn (hi pins s σ H _ I h) λxv s1 h1=>thn h1 λitv s2 h2=>?_);obtain⟨it,fp,tn,J,H2,rfl,I2,T,st2,f2,W,⟨m0,w0⟩,turn⟩:=h2;have hfl:∀b∈fp,b<s2.heap.objs.size:=λb hb=>by
  obtain⟨o,e,_⟩:=T.obj _ _ st2 b hb;exact EV e
 have hcn:∀x a,cl.lookup x=some a->X.env.cells.lookup x=some a:=c.cls.get
 refine wpAny_newObj_type (wpAny_newFunctionEnv c.cell (by intro y hy;simp at hy) (λh1 hns1 hsb1=>?_) c.kind);dsimp only at hns1 hsb1 ⊢;generalize hH2:s2.heap.push { cls:=.type "list",dict:=none,data:=.seq ([]:List Value).toArray }=G2 at hns1 hsb1 ⊢;have hC:G2.objs.size=s2.heap.objs.size+1:=by rw[<-hH2,Ht]
 generalize hCC:G2.objs.size=C at *;generalize hDD:s2.heap.objs.size=D at *;have hDC:D≠C:=by lia
 have hCle:D<=C:=by lia
 have old:∀b o,s2.heap.get? b=some o->h1.get? b=some o:=λb o e=>by
  have lt:b<s2.heap.objs.size:=EV e;exact hsb1.extBut b o (Fc (Fb (hDD▸lt) hCle)) (EJ _ (hH2▸EJ _ e))
 have hacc:h1.get? D=some (bC [] 0):=hsb1.extBut _ _ hDC (EJ _ (hH2▸(hDD▸E5 _ rfl)));have cellD:∀x a,X.env.cells.lookup x=some a->a<D:=λx a e=>by
  obtain⟨v,q⟩:=I2.cell x a e;exact hDD▸q.lt
 have fpc:∀{H':Hp}{us:List Value}{k:Nat},(∀b∈fp,H' b=none)->∀b∈fp,ox (ay X N scope cl fp C s2 H2) [(D,bC us k)] H' b:=λ{H' us k} hn b hb=>by
  have lb:=hfl b hb;refine⟨hn b hb,?_,λz=>?_,.inl hb,λx a e z=>?_,λp hp=>?_⟩
  ·exact Fc (Fb lb hCle)
  ·rcases EO.mp (I2.stkSub b z)with e|e
   ·exact(f2 b hb).2.1 e
   ·exact(f2 b hb).2.2.1 e
  ·exact(f2 b hb).2.2.2.2.1 x a (hcn x a e) z
  ·have:p=(D,bC us k):=by simpa [ay]using hp
   rw[this];exact GL lb
 have D_fs:D∉(ay X N scope cl fp C s2 H2).fs:=λz=>by
  rcases EO.mp (I2.stkSub D z)with e|e
  ·exact absurd I2.lt (by rw[<-e,hDD];exact FM _)
  ·exact I2.nofs (GB hDD) e
 have I3:=mi (tk:=s2.toks+([]:List (Str×Value)).length) (pins':=[(D,bC [] 0)]) c I2 f2 (λb hb=>hDD▸hfl b hb) (hDD▸hCle:s2.heap.objs.size<=C) hns1 old (λp hp=>by
  have e:p=(D,bC [] 0):=by simpa using hp
  subst e;exact⟨hacc,GB hDD,hDC,λv z=>by cases z⟩)
 have tn3:tn 0 h1:=T.keep _ _ _ st2 λb _ o e=>old b o e
 have loop:codeAny (model X.prog X.w) X.A (.compLoop (.ListComp elt [⟨tg,iter,[],0⟩,⟨tg2,iter2,[],0⟩] scope pos) 0 (.ref it) (.ref D) (compEnvC scope cl C X.env))
   (compPost (model X.prog X.w) X.A X.xe none (EP X pins σ Q) (.ref D) C) { s2 with heap:=h1,toks:=s2.toks+([]:List (Str×Value)).length }:=by
  refine kq (hs2 _) (λn s'=>∃i xs us k σc H',Inv (ay X N scope cl fp C s2 H2) [(D,bC us k)] σc H' s'/\tn i s'.heap/\(∀b∈fp,H' b=none)/\Vals xs us/\W i n xs σc H') ?_ m0
   ⟨0,[],[],0,_,H2,I3,tn3,λb hb=>(f2 b hb).1,.nil,w0⟩
  rintro n s4 ⟨i,xs,us,k,σ4,H4,I4,tn4,fr4,rv,w4⟩;obtain⟨hsz,tt⟩:=turn i n xs σ4 H4 w4;rcases tt with⟨stop,fin⟩|⟨go,step⟩
  ·refine thn (T.done (ay X N scope cl fp C s2 H2) rfl rfl rfl hc i _ s4 σ4 H4 _ I4 (fpc fr4) tn4 stop) λr s5 ⟨hr,I5⟩=>?_
   subst hr;obtain⟨m,ns,_⟩:=I5.loc;refine⟨m,ns,λh' sb=>?_⟩;have J1:Inv X pins σ H4 s5:=I2.call' I5.os I5.base I5.hok I5.bare λb hb=>⟨(f2 b hb).2.2.2.1,(f2 b hb).2.1,(f2 b hb).2.2.2.2.1,(f2 b hb).2.2.2.2.2⟩
   have big:∀a,D<=a->a≠X.env.locals/\(a∈X.ex\/X.s₀.heap.objs.size<=a)/\(∀x y,X.env.cells.lookup x=some y->y≠a)/\∀p∈X.pn++pins,p.1≠a:=λa ha=>by
    obtain⟨q0,q1,q2,q3,q4,q5⟩:=I2.fpOk (b:=a) (H':=λ_=>none) (hDD▸ha) rfl;exact⟨q1,q3,q4,q5⟩
   obtain⟨b1,b2,b3,b4⟩:=big C hCle;have J2:Inv X pins σ H4 { s5 with heap:=h' }:=J1.turned (t':=s5.toks) (λb o hb e=>sb.extBut b o hb e) I5.free b1 b2 b3 b4;obtain⟨p1,p2,p3,p4,p5⟩:=I5.pin (D,bC us k) (by simp);obtain⟨d1,d2,d3,d4⟩:=big D (EI _);have J3:Inv X pins σ (upd H4 D (.lst xs)) { s5 with heap:=h' }:=J2.adopt p2 d1 d2 d3 d4 ⟨Gy hsz,us,k,rv,sb.extBut _ _ hDC p1⟩;exact⟨.ref D,_,J3,rfl,fin D p2⟩
  ·refine thn (T.item (ay X N scope cl fp C s2 H2) rfl rfl rfl hc i _ s4 σ4 H4 _ I4 (fpc fr4) tn4 go) λr s5 ⟨u,hr,h5⟩=>?_
   subst hr;refine thn h5 λ_ s6 ⟨x,H6,I6,r6,y6,tn6,fr6⟩=>?_
   have I6':=I6.pinned (fpc fr6) (T.obj _ _ tn6);refine thn (hg fp C s2 H2 _ s6 σ4 H6 x u _ I6' r6 (step x H6 y6)) λ_ s7 ⟨σ7,H7,I7,q7⟩=>?_
   refine thn (hi2 fp C s2 H2 _ s7 σ7 H7 _ I7 q7) λxv2 s8 h8=>thn h8 λitv2 s9 h9=>?_
   obtain⟨it2,fp2,tn2,K2,H9,rfl,I9,T2,st9,f9,U,⟨k0,u0⟩,turn2⟩:=h9;have hfl2:∀b∈fp2,b≠D:=λb hb=>E7 ((f9 b hb).2.2.2.2.2 (D,bC us k) (by simp[ay]))
   generalize hP:jS fp s6.heap=P at I6' I7 I9 f9;have fpc2:∀{H':Hp}{us':List Value}{k':Nat},(∀b∈fp2,H' b=none)->∀b∈fp2,ox (ay X N scope cl fp C s2 H2) ((D,bC us' k')::P) H' b:=λ{H' us' k'} hn b hb=>by
    obtain⟨_,z1,z2,z3,z4,z5⟩:=f9 b hb;refine⟨hn b hb,z1,z2,z3,z4,λp hp=>?_⟩;rcases EO.mp (show p∈(D,bC us' k')::P from hp)with e|e
    ·rw[e];exact E7 (hfl2 b hb)
    ·exact z5 p (by simp[ay,e])
   have I9':Inv (ay X N scope cl fp C s2 H2) ((D,bC us k)::P) σ7 H9 s9:=I9.pins_of λp hp=>by
    refine I9.pin p ?_;rcases EO.mp (show p∈(D,bC us k)::P from hp)with e|e<;>simp[ay,e]
   have hP6:∀b∈fp,∀o,s6.heap.get? b=some o->(b,o)∈P:=λb hb o e=>by rw[<-hP];exact cj hb e
   have loop2:codeAny (model X.prog X.w) X.A (.compLoop (.ListComp elt [⟨tg,iter,[],0⟩,⟨tg2,iter2,[],0⟩] scope pos) 1 (.ref it2) (.ref D) (compEnvC scope cl C X.env))
     (λr s'=>match r with | .ok _=>∃m,m<n/\∃i xs us k σc H',Inv (ay X N scope cl fp C s2 H2) [(D,bC us k)] σc H' s'/\tn i s'.heap/\(∀b∈fp,H' b=none)/\Vals xs us/\W i m xs σc H' | .error _=>False) s9:=by
    refine lE (λn' s'=>∃j ys us' k' σd H',Inv (ay X N scope cl fp C s2 H2) ((D,bC us' k')::P) σd H' s'/\tn2 j s'.heap/\(∀b∈fp2,H' b=none)/\Vals ys us'/\U j n' ys σd H') ?_ k0
     ⟨0,xs,us,k,_,H9,I9',st9,λb hb=>(f9 b hb).1,rv,u0⟩
    rintro n' s10 ⟨j,ys,us',k',σd,H10,I10,tn10,fr10,rv10,w10⟩;obtain⟨hsz2,tt2⟩:=turn2 j n' ys σd H10 w10;rcases tt2 with⟨stop2,m',hm',fin2⟩|⟨go2,step2⟩
    ·refine thn (T2.done (ay X N scope cl fp C s2 H2) rfl rfl rfl hc j _ s10 σd H10 _ I10 (fpc2 fr10) tn10 stop2) λr s11 ⟨hr,I11⟩=>?_
     subst hr;refine⟨m',hm',i+1,ys,us',k',σd,H10,I11.pins_of λp hp=>?_,?_,?_,rv10,fin2⟩
     ·exact I11.pin p (by simp[ay]at hp ⊢;exact .inl hp)
     ·exact T.keep _ _ _ tn6 λb hb o e=>(I11.pin (b,o) (by have:=hP6 b hb o e;simp[ay,this])).1
     ·intro b hb
      obtain⟨o,e,d⟩:=T.obj _ _ tn6 b hb;exact(I11.pin (b,o) (by have:=hP6 b hb o e;simp[ay,this])).2.1
    ·refine thn (T2.item (ay X N scope cl fp C s2 H2) rfl rfl rfl hc j _ s10 σd H10 _ I10 (fpc2 fr10) tn10 go2) λr s11 ⟨u2,hr,h11⟩=>?_
     subst hr;refine thn h11 λ_ s12 ⟨x2,H12,I12,r12,y12,tn12,fr12⟩=>?_
     have I12':=I12.pinned (fpc2 fr12) (T2.obj _ _ tn12);refine thn (hg2 fp C s2 H2 _ s12 σd H12 x2 u2 _ I12' r12 (step2 x2 H12 y12)) λ_ s13 ⟨σ13,H13,I13,q13⟩=>?_
     refine thn (he fp C s2 H2 _ s13 σ13 H13 _ I13 q13) λyv s14 ⟨y,H14,I14,r14,n'',hn'',w14⟩=>?_
     obtain⟨p1,p2,p3,p4,p5⟩:=I14.pin (D,bC us' k') (by simp[ay]);have hsz':us'.toArray.size<=sizeLine:=by simp;rw[<-rv10.length];exact Gy hsz2
     refine wpAny_list_append_plain (hsz:=hsz') ⟨k',p1⟩ λh' pl sb=>?_
     have tn14:tn2 (j+1) s14.heap:=T2.keep _ _ _ tn12 λb hb o e=>(I14.pin (b,o) (ET _ (ET _ (cj hb e)))).1
     have fr14:∀b∈fp2,H14 b=none:=λb hb=>by
      obtain⟨o,e,d⟩:=T2.obj _ _ tn12 b hb;exact(I14.pin (b,o) (ET _ (ET _ (cj hb e)))).2.1
     have PneD:∀p∈P,p.1≠D:=λp hp e=>by
      obtain⟨b,hb,e2⟩:∃b∈fp,p.1=b:=⟨p.1,by rw[<-hP]at hp;exact(jT hp).1,rfl⟩
      exact absurd (hfl b hb) (by rw[<-e2,e];exact FM _)
     have J9:Inv (ay X N scope cl fp C s2 H2) P σ13 H14 s14:=I14.pins_of λp hp=>I14.pin p (by simp[ay]at hp ⊢;simp[hp])
     have J10:Inv (ay X N scope cl fp C s2 H2) P σ13 H14 { s14 with heap:=h' }:=J9.turned (t':=s14.toks) (it:=D) (λb o hb e=>sb.extBut b o hb e) p2 p3 (.inr (GB hDD))
      (λx a e=>Fc (cellD x a (hcn x a e))) (λp hp=>PneD p (by simpa [ay]using hp))
     obtain⟨k3,pl⟩:=pl;have eu:us'.toArray.push yv=(us'++[yv]).toArray:=by simp
     rw[eu]at pl;have J11:Inv (ay X N scope cl fp C s2 H2) ((D,bC (us'++[yv]) k3)::P) σ13 H14 { s14 with heap:=h' }:=J10.pins_of λp hp=>by
      rcases EO.mp (show p∈(D,bC (us'++[yv]) k3)::P by simpa [ay]using hp)with e|e
      ·subst e
       exact⟨pl,p2,p3,p4,λv z=>by cases z⟩
      ·exact J10.pin p (by simp[ay,e])
     exact⟨n'',hn'',j+1,ys++[y],us'++[yv],k3,σ13,H14,J11,T2.keep _ _ _ tn14 λb hb o e=>sb.extBut b o (hfl2 b hb) e,fr14,rv10.append (.cons r14 .nil),w14⟩
   exact iL loop2 (T2.self _ 0 _ _ _ st9 loop2)
 exact codeAny_compStart_list loop (T.self _ 0 _ _ _ tn3 loop)
theorem t4{tg2:Expr}{wi2:TI}{g2:TG}{te:TE}(c:CompOk X N tgs frs ix scope cl)(hc:X.calm=true)(hi:QI X tg iter wi)
  (hg:∀fp C s H,QG (ay X N scope cl fp C s H) tg g) (hi2:∀fp C s H,QI (ay X N scope cl fp C s H) tg2 iter2 wi2) (hg2:∀fp C s H,QG (ay X N scope cl fp C s H) tg2 g2) (he:∀fp C s H,QE (ay X N scope cl fp C s H) elt te)
  (hs:∀x,Ol iter X.env x=pure x:=by intro _;rfl) (hs2:∀env x,Ol iter2 env x=pure x:=by intro _ _;rfl) :
  QE X (.ListComp elt [⟨tg,iter,[],0⟩,⟨tg2,iter2,[],0⟩] scope pos) (qm wi g wi2 g2 te tgs ix):=⟨tZ c hc hi.out (λfp C s H=>(hg fp C s H).out) (λfp C s H=>(hi2 fp C s H).out) (λfp C s H=>(hg2 fp C s H).out) (λfp C s H=>(he fp C s H).out) hs hs2⟩
end
section
variable{K:EG}{g g2:TG}{wi2:TI}{te:TE}{σ0:St}{H:Hp}{R:List V->Hp->Prop}
def In2(J2:It)(g2:TG)(te:TE)(xs:List V)(σ2:St)(H3:Hp)(F:List V->St->Hp->Prop):Prop:=
 ∃U:Nat->Nat->List V->St->Hp->Prop,(∃n,U 0 n xs σ2 H3)/\∀j n ys σd H,U j n ys σd H->ys.length<sizeLine/\
  ((J2.stop j H/\F ys σd H)\/(J2.go j H/\∀x H',J2.yld j H x H'->g2 x σd H' λσ4 H4=>te σ4 H4 λy H5=>∃n',n'<n/\U (j+1) n' (ys++[y]) σ4 H5))
theorem xt{b:Addr}{ws:List V}{F:List V->St->Hp->Prop}(Pu:Nat->List V->St->Hp->Prop)(hz:∀j ys σ H,Pu j ys σ H->ys.length<sizeLine)(ht:∀j ys σ H,Pu j ys σ H->SqL K H b ws)(h0:Pu 0 xs σ0 H)
  (hs:∀j ys σ H x,ws[j]? = some x->Pu j ys σ H->g2 x σ H λσ4 H4=>te σ4 H4 λy H5=>Nx ws.length j (Pu (j+1) (ys++[y]) σ4 H5)) (hd:∀ys σ H,Pu ws.length ys σ H->F ys σ H):In2 (Itl K b) g2 te xs σ0 H F:=by
 refine⟨λi m xs σ H=>m=ws.length - i/\i<=ws.length/\Pu i xs σ H,⟨ws.length,by simp,EU _,h0⟩,?_⟩;rintro i m xs σ H ⟨rfl,hi,p⟩;have q:=ht i xs σ H p;refine⟨hz i xs σ H p,?_⟩;by_cases hlt:i<ws.length
 ·refine .inr ⟨⟨ws,ws[i],q,by simp[hlt]⟩,λx H' y=>?_⟩
  obtain⟨e,y⟩:=y;subst e;exact hs i xs σ _ x (y ws q) p
 ·have e:i=ws.length:=by lia
  subst e;exact .inl ⟨⟨ws,q,EI _⟩,hd xs σ H p⟩
theorem qo{vs:List V}(Pv:Nat->List V->St->Hp->Prop)(hz:∀i ys σ H,Pv i ys σ H->ys.length<sizeLine)(ht:∀i ys σ H,Pv i ys σ H->SqL K H a vs)(h0:Pv 0 [] σ0 H)
  (hs:∀i ys σ H x,vs[i]? = some x->Pv i ys σ H->g x σ H λσ2 H2=>wi2 σ2 H2 λJ2 H3=>In2 J2 g2 te ys σ2 H3 λzs σd Hd=>Nx vs.length i (Pv (i+1) zs σd Hd)) (hd:∀ys σ H,Pv vs.length ys σ H->R ys H) :
  ∃W:Nat->Nat->List V->St->Hp->Prop,(∃m,W 0 m [] σ0 H)/\∀i m xs σc H,W i m xs σc H->xs.length<sizeLine/\
  (((Itl K a).stop i H/\R xs H)\/((Itl K a).go i H/\∀x H',(Itl K a).yld i H x H'->g x σc H' λσ2 H2=>wi2 σ2 H2 λJ2 H3=>
   ∃U:Nat->Nat->List V->St->Hp->Prop,(∃n,U 0 n xs σ2 H3)/\∀j n ys σd H,U j n ys σd H->ys.length<sizeLine/\
    ((J2.stop j H/\∃m',m'<m/\W (i+1) m' ys σd H)\/(J2.go j H/\∀x H',J2.yld j H x H'->g2 x σd H' λσ4 H4=>te σ4 H4 λy H5=>∃n',n'<n/\U (j+1) n' (ys++[y]) σ4 H5)))):=by
 refine⟨λi m xs σ H=>m=vs.length - i/\i<=vs.length/\Pv i xs σ H,⟨vs.length,by simp,EU _,h0⟩,?_⟩;rintro i m xs σ H ⟨rfl,hi,p⟩;have q:=ht i xs σ H p;refine⟨hz i xs σ H p,?_⟩;by_cases hlt:i<vs.length
 ·refine .inr ⟨⟨vs,vs[i],q,by simp[hlt]⟩,λx H' y=>?_⟩
  obtain⟨e,y⟩:=y;subst e;exact hs i xs σ _ x (y vs q) p
 ·have e:i=vs.length:=by lia
  subst e;exact .inl ⟨⟨vs,q,EI _⟩,hd xs σ H p⟩
end
theorem qp{os:List Nat}(hO:Ord os n)(hi:i<n)(ex:(∃a,a<i/\Rb os a i)\/os.getD i 0=i)(j:Nat):p9 os (i+1) j↔p9 os i j:=by
 refine⟨λ⟨w,a,ha,ra⟩=>⟨w,?_⟩,λ⟨w,a,ha,ra⟩=>⟨w,a,by lia,ra⟩⟩;rcases FI a i with q|q
 ·exact⟨a,q,ra⟩
 ·have:a=i:=by lia
  subst this;rcases ex with⟨b,hb,rb⟩|hf
  ·exact⟨b,hb,rb.trans ra⟩
  ·have:=xn hO hi ra
   rw[w]at this;unfold wt at this;rw[if_pos hf]at this;cases this
theorem qq{os:List Nat}(hO:Ord os n)(hi:i<n)(h2:os.getD i 0≠i)(hk:itN os (k+1) i=i)(j:Nat)(hj:j<n):p9 os (i+1) j↔p9 os i j\/j∈rgN os i (k+1):=by
 have w1:wt os i=1:=by unfold wt;rw[if_neg h2]
 constructor
 ·rintro⟨w,a,ha,ra⟩
  rcases FI a i with q|q
  ·exact .inl ⟨w,a,q,ra⟩
  ·have:a=i:=by lia
   subst this;exact .inr (xo hk ra)
 ·rintro(⟨w,a,ha,ra⟩|h)
  ·exact⟨w,a,by lia,ra⟩
  ·have r:=Ai h
   exact⟨by rw[xn hO hi r,w1],i,by lia,r⟩
theorem fB{met:List Bool}{p:Nat}(h:p<met.length):met.getD p true=met.getD p false:=by
 rw[EH,EH,EF h];rfl
theorem t5{os:List Nat}(hO:Ord os n)(hi:i<n)(hk:itN os (k+1) i=i)(hn:(rgN os i (k+1)).Nodup):∀(d j:Nat) (met:List Bool) (f:Nat),j+d=k+1->met.length=n->(∀m,j<=m->m<k+1->met.getD (itN os m i) false=false)->(j=0\/met.getD i false=true)->d<f->
  (cg os f met (itN os j i)).1=(List.range' j d).map λt=>itN os t i:=by
 have inj:∀a b,a<k+1->b<k+1->itN os a i=itN os b i->a=b:=λa b ha hb e=>by
  have h:=hn;unfold rgN at h;rw[Hg,IZ]at h;rcases G3 a b with q|q|q
  ·have:=FQ.mp h a b (by simpa using ha) (by simpa using hb) q
   simp only[Ho]at this;exact absurd e this
  ·exact q
  ·have:=FQ.mp h b a (by simpa using hb) (by simpa using ha) q
   simp only[Ho]at this;exact absurd e.symm this
 intro d
 induction d with
 | zero=>
  intro j met f hj hl hm h0 hf;obtain⟨g,rfl⟩:∃g,f=g+1:=⟨f - 1,by lia⟩
  have:j=k+1:=by lia
  subst this;rw[hk];unfold cg;have:met.getD i true=true:=by
   rw[fB ⋯];exact h0.elim (λz=>by lia) id
  rw[if_pos this];rfl
 | succ d ih=>
  intro j met f hj hl hm h0 hf;obtain⟨g,rfl⟩:∃g,f=g+1:=⟨f - 1,by lia⟩
  have hjn:=dG hO j hi;have hmj:=hm j (EI _) ⋯;unfold cg;rw[if_neg (by rw[fB ⋯,hmj];simp)];show itN os j i::(cg os g (met.set (itN os j i) true) (itN os (j+1) i)).1=_
  have k1:∀m,j+1<=m->m<k+1->(met.set (itN os j i) true).getD (itN os m i) false=false:=λm h1 h2=>by
   rw[cw ⋯,if_neg (λe=>by have:=inj _ _ h2 ⋯ e;lia)];exact hm m ⋯ h2
  have k2:(met.set (itN os j i) true).getD i false=true:=by
   rw[cw ⋯];rcases h0 with rfl|h0
   ·exact if_pos rfl
   ·rw[h0];split<;>rfl
  rw[ih (j+1) (met.set (itN os j i) true) g ⋯ (by simpa using hl) k1 (.inr k2) ⋯,List.range'_succ];rfl
theorem qr{os:List Nat}(hO:Ord os n)(hi:i<n)(ex:(∃a,a<i/\Rb os a i)\/os.getD i 0=i):(cA os (i+1)).1=(cA os i).1:=by
 have hml:(cA os i).2.length=n:=by rw[eJ,hO.len]
 rw[cJ];unfold xb;have hw:(cg os (os.length+1) (cA os i).2 i).1.length<=1:=by
  unfold cg;split
  ·simp
  ·rcases ex with h|h
   ·rename_i g
    rw[fB ⋯]at g;exact absurd (((eK hO i ⋯).2.1 i hi).mpr h) g
   ·simp only[Fk]
    rw[h];obtain⟨m,hm⟩:∃m,os.length=m+1:=⟨n - 1,by rw[hO.len];lia⟩
    rw[hm];unfold cg;rw[if_pos (by rw[fB (by simp;lia),cw ⋯,if_pos rfl])];simp
 dsimp only;rw[if_neg ⋯]
theorem qu{os:List Nat}(hO:Ord os n)(hi:i<n)(un:∀a,a<i->¬Rb os a i)(h2:os.getD i 0≠i)(hk:itN os (k+1) i=i)(hn:(rgN os i (k+1)).Nodup):(cA os (i+1)).1=(cA os i).1++[rgN os i (k+1)]:=by
 have hml:(cA os i).2.length=n:=by rw[eJ,hO.len]
 have hkn:k+1<=n:=by have:=mN hn (u6 hO hi _);rw[eY]at this;exact this
 have hw:=t5 hO hi hk hn (k+1) 0 (cA os i).2 (os.length+1) ⋯ hml (λm _ _=>by
  cases e:(cA os i).2.getD (itN os m i) false with
  | false=>rfl
  | true=>
   obtain⟨a,ha,ra⟩:=((eK hO i ⋯).2.1 _ (dG hO m hi)).mp e;exact absurd (ra.trans (Rb.symm hO hi ⟨m,rfl⟩)) (un a ha)) (.inl rfl) (by rw[hO.len];lia)
 have hw2:(cg os (os.length+1) (cA os i).2 i).1=rgN os i (k+1):=by
  rw[show(cg os (os.length+1) (cA os i).2 i).1=_ from hw];unfold rgN;rw[List.range_eq_range']
 have hk0:k≠0:=λz=>by subst z;exact h2 hk
 rw[cJ];unfold xb;dsimp only;rw[hw2,if_pos (by rw[eY];lia)]
structure RgJ (os:List Nat) (n i:Nat) (sn:Nat->Prop) (rgs:List (List Nat)):Prop where
 seen:∀j,j<n->(sn j↔p9 os i j)
 eq:rgs=(cA os i).1
 few:rgs.length<=i
theorem RgJ.nil{os:List Nat}{sn:Nat->Prop}(h:∀j,¬sn j):RgJ os n 0 sn []:=
 ⟨λj _=>⟨λz=>absurd z (h j),λz=>by obtain⟨_,a,ha,_⟩:=z;lia⟩,rfl,EI _⟩
theorem RgJ.skip{os:List Nat}{sn:Nat->Prop}(hO:Ord os n)(hi:i<n)(R:RgJ os n i sn rgs)(h:sn i\/os.getD i 0=i):RgJ os n (i+1) sn rgs:=by
 have ex:(∃a,a<i/\Rb os a i)\/os.getD i 0=i:=h.elim (λz=>.inl ((R.seen i hi).mp z).2) .inr;exact⟨λj hj=>(R.seen j hj).trans (qp hO hi ex j).symm,by rw[R.eq,qr hO hi ex],by have:=R.few;lia⟩
theorem RgJ.take{os:List Nat}{sn sn':Nat->Prop}(hO:Ord os n)(hi:i<n)(R:RgJ os n i sn rgs)(h1:¬sn i)(h2:os.getD i 0≠i)(hk:itN os (k+1) i=i)(hn:(rgN os i (k+1)).Nodup)
  (hs:∀j,j<n->(sn' j↔sn j\/j∈rgN os i (k+1))):RgJ os n (i+1) sn' (rgs++[rgN os i (k+1)]):=by
 have w1:wt os i=1:=by unfold wt;rw[if_neg h2]
 have un:∀a,a<i->¬Rb os a i:=λa ha ra=>h1 ((R.seen i hi).mpr ⟨w1,a,ha,ra⟩)
 exact⟨λj hj=>(hs j hj).trans ((or_congr (R.seen j hj) Iff.rfl).trans (qq hO hi h2 hk j hj).symm),by rw[R.eq,qu hO hi un h2 hk hn],by rw[Fd,Gf];have:=R.few;lia⟩
theorem RgJ.done{os:List Nat}{sn:Nat->Prop}(hO:Ord os n)(R:RgJ os n n sn rgs):rgs=aB os:=by
 rw[R.eq];unfold aB;rw[hO.len]
inductive RMv where
 | take (p:Nat)
 | move (p q:Nat)
 | lay (p:Nat)
noncomputable def RMv.on(s:List V×V):RMv->List V×V
 | .take p=>(s.1.set p .non,s.1.getD p .non)
 | .move p q=>((s.1.set q (s.1.getD p .non)).set p .non,s.2)
 | .lay p=>(s.1.set p s.2,.non)
noncomputable def RMv.lt(n:Nat):RMv->Prop
 | .take p=>p<n
 | .move p q=>p<n/\q<n
 | .lay p=>p<n
noncomputable def RMv.vs:RMv->List V
 | .take p=>[.str "take",.int (p:Nat)]
 | .move p q=>[.str "move",.int (p:Nat),.int (q:Nat)]
 | .lay p=>[.str "lay",.int (p:Nat)]
noncomputable def mvI(r:List Nat)(m:Nat):List RMv:=(EZ m).map λi=>RMv.move (r.getD (i+1) 0) (r.getD i 0)
noncomputable def mvR(r:List Nat):List RMv:=RMv.take (r.getD 0 0)::(mvI r (r.length - 1)++[RMv.lay (r.getD (r.length - 1) 0)])
noncomputable def mvs(rgs:List (List Nat)):List RMv:=(rgs.map mvR).flatten
noncomputable def i3(os:List Nat):List RMv:=mvs (aB os)
theorem mQ(r:List Nat)(m:Nat):mvI r (m+1)=mvI r m++[RMv.move (r.getD (m+1) 0) (r.getD m 0)]:=by unfold mvI;rw[Il,EK];rfl
theorem xu(h:0<r.length):(mvR r).length=r.length+1:=by
 unfold mvR mvI;simp;lia
theorem RMv.on_len(s:List V×V)(m:RMv):(RMv.on s m).1.length=s.1.length:=by cases m<;>simp[RMv.on]
theorem qw{os:List Nat}{n:Nat}(h:∀o∈os,o<n)(h0:0<n):∀(f:Nat) (met:List Bool) (pl:Nat),pl<n->∀x∈(cg os f met pl).1,x<n
 | 0,_,_,_,x,hx=>by simp[cg]at hx
 | f+1,met,pl,hp,x,hx=>by
  unfold cg at hx;split at hx
  ·cases hx
  ·rcases EO.mp hx with e|hx
   ·rw[e];exact hp
   ·refine qw h h0 f _ _ ?_ x hx
    rw[EH];cases e:os[pl]? with
    | none=>exact h0
    | some o=>exact h o (ES e)
theorem lF{os:List Nat}{n:Nat}(hO:Ord os n):∀i,i<=n->∀r∈(cA os i).1,1<r.length/\∀x∈r,x<n
 | 0,_,r,hr=>by cases hr
 | i+1,hi,r,hr=>by
  rw[cJ]at hr;unfold xb at hr;dsimp only at hr;split at hr
  ·rename_i g
   rcases Fq.mp hr with q|q
   ·exact lF hO i ⋯ r q
   ·rw[Fu.mp q]
    exact⟨g,qw hO.lt ⋯ _ _ _ ⋯⟩
  ·exact lF hO i ⋯ r hr
theorem eM{os:List Nat}(hO:Ord os n):∀r∈aB os,1<r.length/\∀x∈r,x<n:=by
 unfold aB;rw[hO.len];exact lF hO n (EI _)
theorem jB(h:∀x∈r,x<n)(hi:i<r.length):r.getD i 0<n:=by
 rw[EH,EF hi];exact h _ (Fh hi)
theorem An(h1:1<r.length)(h:∀x∈r,x<n):∀m∈mvR r,m.lt n:=by
 intro m hm;unfold mvR mvI at hm;rcases EO.mp hm with rfl|hm
 ·exact jB h ⋯
 ·rcases Fq.mp hm with hm|hm
  ·obtain⟨i,hi,rfl⟩:=E1.mp hm
   have:=FE.mp hi;exact⟨jB h ⋯,jB h ⋯⟩
  ·rw[Fu.mp hm]
   exact jB h ⋯
theorem qx{os:List Nat}(hO:Ord os n):∀m∈i3 os,m.lt n:=by
 intro m hm;unfold i3 mvs at hm;obtain⟨l,hl,hm⟩:=List.mem_flatten.mp hm;obtain⟨r,hr,rfl⟩:=E1.mp hl;obtain⟨a,b⟩:=eM hO r hr;exact An a b m hm
theorem xw(h:∀r∈rgs,1<r.length):(mvs rgs).length=(rgs.map λr=>r.length+1).sum:=by
 unfold mvs;rw[List.length_flatten,Gd];refine congrArg List.sum (Hk λr hr=>?_);exact xu (by have:=h r hr;lia)
theorem xx{f:Nat->Nat}(h:∀j,f j<=1):∀n,sm f n<=n
 | 0=>EI _
 | n+1=>by
  show sm f n+f n<=_
  have:=xx h n;have:=h n;lia
theorem gC{os:List Nat}(hO:Ord os n):(i3 os).length=((aB os).map λr=>r.length+1).sum/\(i3 os).length<=2*n:=by
 have e:(i3 os).length=((aB os).map λr=>r.length+1).sum:=xw λr hr=>(eM hO r hr).1
 refine⟨e,?_⟩;rw[e,p7 hO];have h1:=xx (f:=wt os) (λj=>by rcases Aj os j with w|w<;>lia) n;have h2:=xx (f:=ld os) (λj=>by unfold ld;split<;>lia) n;lia
def TupK(H H':Hp):Prop:=∀b xs,H b=some (.tup xs)->H' b=some (.tup xs)
theorem TupK.of{H:Hp}(s:Same H H1):TupK H H1:=λb xs e=>s _ _ e
theorem TupK.upd{H:Hp}{o':HO}(e:H a=some o')(h:∀xs,o'≠.tup xs):TupK H (upd H a o):=λb xs hb=>by
 have:b≠a:=λz=>by rw[z,e]at hb;exact h xs (EY hb)
 rw[ak this];exact hb
section
variable{H H1:Hp}{v y:V}{d:PyData}
variable{vs us rs:List V}{ds:List PyData}
end
theorem qy:¬(("things" : Str) = "held"):=by decide +kernel
theorem u7:¬(("things" : Str) = "plan"):=by decide +kernel
theorem qz:¬(("things" : Str) = "done"):=by decide +kernel
theorem u9:¬(("held" : Str) = "plan"):=by decide +kernel
theorem qA:¬(("held" : Str) = "done"):=by decide +kernel
theorem qB:¬(("plan" : Str) = "done"):=by decide +kernel
noncomputable def rwF (ta:Addr) (hv:V) (pa:Addr) (n:Int):List (Str×V):=[("things",Oa ta),("held",hv),("plan",Oa pa),("done",N7 n)]
section
variable(ta:Addr)(hv v:V)(pa:Addr)(n m:Int)
theorem mR:bI "held" v (rwF ta hv pa n)=rwF ta v pa n:=by unfold rwF;rw[aS _ _ _ qy,mP]
theorem t6:bI "done" (.int m) (rwF ta hv pa n)=rwF ta hv pa m:=by unfold rwF;rw[aS _ _ _ qz,aS _ _ _ qA,aS _ _ _ qB,mP]
theorem CT:bI "held" hv (bI "things" (.ref ta) [])=([("things",Oa ta),("held",hv)]:List (Str×V)):=by
 show bI "held" hv [("things",Oa ta)]=_
 rw[aS _ _ _ qy];rfl
theorem CU:bI "plan" (.ref pa) [("things",Oa ta),("held",hv)]=([("things",Oa ta),("held",hv),("plan",Oa pa)]:List (Str×V)):=by
 rw[aS _ _ _ u7,aS _ _ _ u9];rfl
theorem CV:bI "done" (.int n) [("things",Oa ta),("held",hv),("plan",Oa pa)]=rwF ta hv pa n:=by
 rw[aS _ _ _ qz,aS _ _ _ qA,aS _ _ _ qB];rfl
theorem bO:(rwF ta hv pa n).lookup ("things" : Str)=some (.ref ta):=dX
theorem lG:(rwF ta hv pa n).lookup ("held" : Str)=some hv:=by unfold rwF;rw[bB (E7 qy),dX]
theorem g8:(rwF ta hv pa n).lookup ("plan" : Str)=some (.ref pa):=by unfold rwF;rw[bB (E7 u7),bB (E7 u9),dX]
theorem eZ:(rwF ta hv pa n).lookup ("done" : Str)=some (.int n):=by unfold rwF;rw[bB (E7 qz),bB (E7 qA),bB (E7 qB),dX]
theorem qC {f:Str}(h1:¬f = "things") (h2:¬f = "held") (h3:¬f = "plan") (h4:¬f = "done"):(rwF ta hv pa n).lookup f=none:=by
 unfold rwF;rw[bB h1,bB h2,bB h3,bB h4];rfl
end
def MvsAt(H:Hp)(ps:List Addr)(ms:List RMv):Prop:=ps.length=ms.length/\∀(i:Nat) p m,ps[i]? = some p->ms[i]? = some m->H p=some (.tup m.vs)
def KpR(w ta:Addr)(H H':Hp):Prop:=∀b o,H b=some o->b≠w->b≠ta->H' b=some o
theorem KpR.trans{w ta:Addr}{H:Hp}(a:KpR w ta H H1)(b:KpR w ta H1 H2):KpR w ta H H2:=λc o e x y=>b c o (a c o e x y) x y
section
variable{C:Addr}{H H1:Hp}{w ta pa:Addr}{ps:List Addr}{us:List V}{hv:V}{ms:List RMv}{d:Nat}
theorem MvsAt.tk(h:MvsAt H ps ms)(k:TupK H H1):MvsAt H1 ps ms:=⟨h.1,λi p m a b=>k _ _ (h.2 i p m a b)⟩
theorem MvsAt.nil:MvsAt H [] []:=⟨rfl,λi p m a=>by simp at a⟩
theorem MvsAt.snoc{m:RMv}(h:MvsAt H ps ms)(e:H p=some (.tup m.vs)):MvsAt H (ps++[p]) (ms++[m]):=by
 refine⟨by simp[h.1],λi q x a b=>?_⟩;rcases bR a with⟨l,a⟩|⟨l,a⟩
 ·rcases bR b with⟨_,b⟩|⟨l',b⟩
  ·exact h.2 i q x a b
  ·have:=h.1;lia
 ·rcases bR b with⟨l',b⟩|⟨_,b⟩
  ·have:=h.1;lia
  ·rw[a,b];exact e
theorem KpR.upT:KpR w ta H (upd H ta o):=λb u e _ n=>by rw[ak n];exact e
theorem KpR.upW:KpR w ta H (upd H w o):=λb u e n _=>by rw[ak n];exact e
end
section
variable{X:Cx}{e:Expr}{es:List Expr}{t:TA}{pos p:Pos}{x:Str}{C f:Addr}
end
end L2
open L2.RMv renaming take→Of,lay→Og
namespace HT
open PySem PySem.Spec PyProof.Rows PySem.W L2
section
variable{prog:Program}{w:World}{A:Around}{E:Value->Shared->Prop}{s:Shared}
theorem qD{t u:Tok}{Q:Bool->Shared->Prop}(h:Q (decide (x.cps.toList<y.cps.toList)) s):wpAny (model prog w) A (oneLt' true (.str x t) (.str y u)) Q E s:=by
 rw[oneLt'_eq];simp only[if_true];refine Oh (wpAny_cRoomFor_byValue rfl ?_);refine Oh (wpAny_callSpecialIfBound?_slot (OA s x t) Kb ?_);refine wpAny_call_entry Kb (OA s x t) PySem.F.entry_str_lt ?_ (PySem.F.args_str_lt_2 _ _);show wpAny _ _ (ret (.bool (decide (x.cps.toList<y.cps.toList)))) _ _ s
 exact Oi ⟨_,rfl,Os h⟩
end
end HT
namespace L2
open PySem PySem.Spec PyProof.Rows
theorem i4:∀{ys:List Str}{us:List Value},Vals (ys.map N9) us->StrsAre us ys
 | [],_,h=>by cases h;exact .nil
 | y::ys,_,h=>by
  cases h with
  | cons rv r=>obtain⟨t,rfl⟩:=rv;exact .cons y t (i4 r)
section
variable{X:Cx}
end
theorem xy{a b:Str}(h:a.cps.toList=b.cps.toList):a=b:=by
 obtain⟨⟨x⟩⟩:=a;obtain⟨⟨y⟩⟩:=b;simp only at h;rw[h]
noncomputable def turn(r:List Nat):List Nat:=r.take 1++(r.drop 1).reverse
section
variable{H H1:Hp}{v y z:V}{d e:Option (List Nat×Nat)}
variable{vs us rs:List V}
end
section
variable{C:Addr}{H H1:Hp}{w ta pa:Addr}{ps:List Addr}{us:List V}{hv:V}{ms:List RMv}{d:Nat}
end
section
variable{H H1:Hp}{vs us:List V}{ds:List (List Nat×Nat)}{v:V}{d:List Nat×Nat}
end
section
variable{X:Cx}{e:Expr}{te:TE}{pos p1 p2 p3 p4 p5:Pos}{j j':Nat}
end
end L2
namespace HT
open PySem PyProof.Rows PySem.W L2
section
variable{prog:Program}{w:World}{A:Around}{E:Value->Shared->Prop}
def DQ(f:Nat->Int)(d v:Value)(n:Nat):Prop:=n=0/\v=d\/∃(i:Nat) (t:Tok),i<n/\v=.int (f i) t/\∀m,m<n->f m<=f i
theorem qE{I S:Addr}{wr:List Addr}{P:Nat->Value->Prop}{St:Nat->Heap->Prop}{d:Value}{R:Result->Shared->Prop}(f:Nat->Int)(W:Walks prog w A.in1 I fp wr n P St)(hf:∀i v,P i v->∃t,v=.int (f i) t)(hSf:S∉fp):
  ∀(k j:Nat) (s:Shared) (vb:List Value) (c:Nat),n - j=k->j<=n->St j s.heap->s.heap.get? S=some (seqObj "list" vb.toArray c)->
   (vb=[]/\j=0\/∃(i:Nat) (t:Tok),i<j/\vb=[.int (f i) t,.int (f i) t]/\∀m,m<j->f m<=f i)->
   (∀v h' tk,DQ f d v n->(∀b o,b∉wr->b≠S->s.heap.get? b=some o->h'.get? b=some o)->R (.ok (.ret v)) { s with heap:=h',toks:=tk })->
   codeAny (model prog w) A (.builtin "max.loop" ⟨[.ref I,.none,.ref S],[(Fy "default",d)]⟩) R s:=by
 have hSw:S∉wr:=λz=>hSf (W.sub _ z)
 have nm:(toString "max"++toString ".loop" : String) = "max.loop":=by decide
 intro k
 induction k with
 | zero=>
  intro j s vb c hk hj hst hS hb hR;have hin:j=n:=by lia
  refine codeAny_builtin JK ?_;rw[Hf Ge _];show wpAny _ A.in1 (seqItems? (.ref S) >>= _) _ _ s
  refine Oh (wpAny_seqItems hS rfl ?_);show wpAny _ A.in1 (tryCatch (pyNext (.ref I)) _ >>= _) _ _ s
  refine Oh (wpAny_tryCatch (W.done s _ _ (hin▸hst) λh' tk kp=>?_));have hS1:=kp S _ hSw hS;rcases hb with⟨rfl,h0⟩|⟨i,t,hi,rfl,hm⟩
  ·refine Oh (wpAny_rule (Oi ?_))
   exact hR d _ tk (.inl ⟨by lia,rfl⟩) λb o q1 q2 e=>kp b o q1 e
  ·show wpAny _ A.in1 (updateSeq S (λ_=>#[]) >>= _) _ _ _
   refine Oh ?_;refine wpAny_updateSeq hS1 rfl (Oh (wpAny_letGo (Oi ?_)));exact hR _ _ tk (.inr ⟨i,t,by lia,rfl,λm q=>hm m ⋯⟩) λb o q1 q2 e=>(GY _ _ (E7 q2)).trans (kp b o q1 e)
 | succ k ih=>
  intro j s vb c hk hj hst hS hb hR;have hlt:j<n:=by lia
  refine codeAny_builtin JK ?_;rw[Hf Ge _];show wpAny _ A.in1 (seqItems? (.ref S) >>= _) _ _ s
  refine Oh (wpAny_seqItems hS rfl ?_);show wpAny _ A.in1 (tryCatch (pyNext (.ref I)) _ >>= _) _ _ s
  refine Oh (wpAny_tryCatch (W.item j s _ _ hlt hst λv h' tk hP st1 kp=>?_));obtain⟨tv,rfl⟩:=hf j v hP;have hS1:=kp S _ hSw hS;have upd1:∀(g:Array Value->Array Value) b (o:Obj),b≠S->h'.get? b=some o->(h'.update S (Fj g)).get? b=some o:=λg b o q e=>(GY _ _ (E7 q)).trans e
  rcases hb with⟨rfl,h0⟩|⟨i,t,hi,rfl,hm⟩
  ·show wpAny _ A.in1 (updateSeq S (λ_=>#[.int (f j) tv,.int (f j) tv]) >>= _) _ _ _
   refine Oh ?_;refine wpAny_updateSeq hS1 rfl ?_;rw[nm];obtain⟨c1,hc1⟩:∃c1,(h'.update S (Fj λ_=>#[.int (f j) tv,.int (f j) tv])).get? S=some (seqObj "list" [G9 (f j) tv,G9 (f j) tv].toArray c1):=⟨_,OE hS1 λ_=>#[.int (f j) tv,.int (f j) tv]⟩
   refine Oi ⟨plainId_quiet Ge _,ih (j+1) _ _ c1 ⋯ hlt (W.frame _ _ _ st1 λb q o e=>upd1 _ b o (λz=>hSf (z▸q)) e) hc1 (.inr ⟨j,tv,by lia,rfl,λm q=>?_⟩) λv2 h2 tk2 q2 k2=>?_⟩
   ·have:m=j:=by lia
    rw[this];exact M1 _
   ·exact hR v2 h2 tk2 q2 λb o q3 q4 e=>k2 b o q3 q4 (upd1 _ b o q4 (kp b o q3 e))
  ·show wpAny _ A.in1 (tryCatch (OI [.int (f j) tv,.int (f j) tv] (richCompare .Gt (.int (f j) tv) (.int (f i) t) >>= _)) _ >>= _) _ _ _
   refine Oh (wpAny_tryCatch (Ox (Oh (Mf (prog:=prog) (w:=w) (A:=A.in1) (P:=λi v=>∃t,v=.int (f i) t) f (λi v z=>z) j i _ _ _ _ _ ⟨tv,rfl⟩ ⟨t,rfl⟩ ?_))));refine Oh (Ox (Os ?_));refine Oh (wpAny_letGo (Oi ?_));by_cases hg:f j > f i
   ·simp only[hg,decide_true,if_true]
    refine Oh ?_;refine wpAny_updateSeq hS1 rfl (Oh (wpAny_letGo ?_));rw[nm];obtain⟨c1,hc1⟩:∃c1,(h'.update S (Fj λ_=>#[.int (f j) tv,.int (f j) tv])).get? S=some (seqObj "list" [G9 (f j) tv,G9 (f j) tv].toArray c1):=⟨_,OE hS1 λ_=>#[.int (f j) tv,.int (f j) tv]⟩
    refine Oi ⟨plainId_quiet Ge _,ih (j+1) _ _ c1 ⋯ hlt (W.frame _ _ _ st1 λb q o e=>upd1 _ b o (λz=>hSf (z▸q)) e) hc1 (.inr ⟨j,tv,by lia,rfl,λm q=>?_⟩) λv2 h2 tk2 q2 k2=>?_⟩
    ·by_cases e:m=j
     ·rw[e];exact M1 _
     ·have:=hm m ⋯;lia
    ·exact hR v2 h2 tk2 q2 λb o q3 q4 e=>k2 b o q3 q4 (upd1 _ b o q4 (kp b o q3 e))
   ·simp only[hg,decide_false,FK,if_false]
    refine Oh (wpAny_letGo ?_);rw[nm];refine Oi ⟨plainId_quiet Ge _,ih (j+1) _ _ c ⋯ hlt st1 hS1 (.inr ⟨i,t,by lia,rfl,λm q=>?_⟩) λv2 h2 tk2 q2 k2=>?_⟩
    ·by_cases e:m=j
     ·rw[e];lia
     ·exact hm m ⋯
    ·exact hR v2 h2 tk2 q2 λb o q3 q4 e=>k2 b o q3 q4 (kp b o q3 e)
theorem kr (a v:Value):argsOk "max" ⟨[a],[(Fy "default",v)]⟩:=by unfold argsOk;kernel_rfl
theorem xA{s:Shared}{d:Value}{Q:Value->Shared->Prop}(f:Nat->Int)(hh:A.handled=none)(hl:s.heap.IsList l its.toArray)(hf:∀(i:Nat) (v:Value),its[i]? = some v->∃t,v=.int (f i) t)
  (h:∀v h' tk,DQ f d v its.length->(∀b o,s.heap.get? b=some o->h'.get? b=some o)->Q v { s with heap:=h',toks:=tk }) :
  wpAny (model prog w) A (call (.builtin "max") [.ref l] [(Fy "default",d)]) Q E s:=by
 have nm:(toString "max"++toString ".loop" : String) = "max.loop":=by decide
 have hll:l<s.heap.objs.size:=by obtain⟨_,e,_⟩:=id hl;exact EV e
 refine kmk_tree PySem.F.kind_max PySem.F.plain_max PySem.F.entry_max (kr _ _) ?_;show wpAny _ A.in1 (IL "max" ["key","default"] 0 ⟨[],[(Fy "default",d)]⟩ >>= _) _ _ s
 refine Oh (wpAny_of_eq (show IL "max" ["key","default"] 0 ⟨[],[(Fy "default",d)]⟩=pure [none,some d]from rfl) ?_);refine Oh (Oi ?_);refine Oh (wpAny_pyIter_list hl ?_);refine Oh (wpAny_newList ?_ (EU _));rw[nm];have hS:(s.heap.push { cls:=.type "list_iterator",data:=.fields #[.ref l,.int 0 0] }).objs.size=s.heap.objs.size+1:=size_push' ..;have W:=Nj (prog:=prog) (w:=w) (A:=A.in1) hh s.heap.objs.size l (Fc hll) its.toArray;have ez:its.toArray.size=its.length:=EW ..;rw[ez]at W;have hll1:((s.heap.push { cls:=.type "list_iterator",data:=.fields #[.ref l,.int 0 0] }).push (seqObj "list" #[] 0)).IsList l its.toArray:=by
  obtain⟨o,e,r⟩:=hl;exact⟨o,EJ _ (EJ _ e),r⟩
 have hf1:∀(i:Nat) (v:Value),its.toArray[i]? = some v->∃t,v=.int (f i) t:=λi v hv=>hf i v (by simpa using hv)
 refine Oi ⟨plainId_quiet Ge _,qE f W hf1 (S:=(s.heap.push { cls:=.type "list_iterator",data:=.fields #[.ref l,.int 0 0] }).objs.size) ?_ its.length 0 _ [] 0 ⋯ (EU _) ⟨⟨_,EJ _ (E5 _ rfl),rfl,rfl⟩,hll1⟩ (E5 _ rfl) (.inl ⟨rfl,rfl⟩) λv h' tk q kp=>?_⟩
 ·rw[hS]
  intro z;simp only[EO,Fl,or_false]at z;rcases z with z|z
  ·exact absurd z (Lg _)
  ·rw[<-z]at hll;exact absurd hll (Nat.not_lt_of_le (Hh _))
 ·refine h v h' tk q λb o e=>kp b o ?_ ?_ (EJ _ (EJ _ e))
  ·intro z
   have e2:b=s.heap.objs.size:=by simpa using z
   exact absurd (e2▸EV e) (FM _)
  ·rw[hS]
   have:=EV e;exact Fc (GH this)
end
end HT
namespace L2
open PySem PySem.Spec PyProof.Rows PySem.W
section
variable{X:Cx}
theorem xB:QIx X Dk:=⟨zy⟩
theorem va:QC X (.builtin "ord") (λxs H Q=>∃x,xs=[.str x]/\x.length=1/\Q (.int (x.cps.getD 0 0:Nat)) H):=⟨sv⟩
theorem cm:QC X (.builtin "len") (λxs H Q=>∃z,xs=[.str z]/\z.length<=sizeLine/\Q (.int z.length) H):=⟨j4⟩
theorem bT (hg:Gl X x) (hm:X.mg x=some u) (r:RelV v u) (hd:(x == ("__debug__" : Str))=false:=by decide):QE X (.Name x pos) (tC v):=⟨vK hg hm r hd⟩
def Em:V->Option Int->Option Int->Hp->VK->Prop:=λx lo hi H Q=>∃z,x=.str z/\z.length<=sizeLine/\Q (.str (JF z lo hi)) H
theorem mS{v:Value}{o:Option Int}(h:IsPart v o):∃l:Option (Int×Tok),v=partValue l/\l.map (·.1)=o:=by
 cases h with
 | none=>exact⟨none,rfl,rfl⟩
 | int i t=>exact⟨some (i,t),rfl,rfl⟩
theorem Ao:QSl X Em:=by
 refine⟨?_⟩;intro pins s σ H x v vl vu lo hi sl Q I rx hs pl pu h;obtain⟨z,rfl,hz,q⟩:=h;obtain⟨t,rfl⟩:=rx;obtain⟨l,rfl,rfl⟩:=mS pl;obtain⟨u,rfl,rfl⟩:=mS pu;refine⟨"str",_,PySem.F.slot_str_getitem.lookup,OA _ _ _,wpAny_getItem_str_slice (l:=l) (u:=u) (st:=none) hs rfl (post_val_or_str ⟨FB (Txt.slice_le z _ _) hz,λt' k=>?_⟩)⟩;exact⟨.str (JF z (l.map (·.1)) (u.map (·.1))),H,I.tok k,⟨t',rfl⟩,q⟩
theorem vc:QOp X (Ov .Mult) (λx y H Q=>∃z n,x=.str z/\y=.int n/\MulOk z n/\Q (.str (Je z n)) H):=by
 refine⟨λpins s σ H x y v u Q I rx ry h=>?_⟩;obtain⟨z,n,rfl,rfl,hm,q⟩:=h;obtain⟨t,rfl⟩:=rx;obtain⟨t',rfl⟩:=ry;exact SB.mul hm λt2 k=>⟨.str (Je z n),H,I.tok k,⟨t2,rfl⟩,q⟩
def Its(z:Str):It:=⟨λi _=>i<z.cps.size,λi H x H'=>H'=H/\∃c,z.cps[i]? = some c/\x=.str ⟨#[c]⟩,λi _=>i=z.cps.size⟩
theorem mT {w:World}{K:EG}{T:String}(hT:["enumerate","zip","dict_itemiterator","dict_reverseitemiterator","odict_iterator","itertools.zip_longest","itertools.pairwise"].contains T=false) (it:Addr) (z:Str) (t:Tok)
  (W:∀A:Around,A.handled=none->Walks P w A it [it] [it] z.cps.size (SignAt z) (λi h=>h.IsStrIter it T z t i))
  (hself:∀(A:Around) (i:Nat) (s:Shared) (Q:Value->Shared->Prop) (E:Value->Shared->Prop),s.heap.IsStrIter it T z t i->Q (.ref it) s->wpAny (model P w) A (pyIter (.ref it)) Q E s) :
  Turn P w K tg (Its z) [it] it (λi h=>h.IsStrIter it T z t i) where
 mem:=by simp
 obj:=λi h st b hb=>by
  have e:b=it:=by simpa using hb
  subst e;obtain⟨o,e,c,d⟩:=st;exact⟨o,e,λv q=>by rw[d]at q;cases q⟩
 keep:=λi h h' st k=>by
  obtain⟨o,e,r⟩:=st;exact⟨o,k it (by simp) o e,r⟩
 item:=by
  intro X hP hw hK hc i pins s σ H E I hf st hg;subst hP hw hK;obtain⟨f0,f1,f2,f3,f4,f5⟩:=hf it (by simp);refine(W X.A (I.ok.hd hc)).item i s _ _ hg st λv h' tk hv st' kk=>?_
  obtain⟨c,u,hcc,rfl⟩:=hv;have I1:Inv X pins σ H { s with heap:=h',toks:=tk }:=I.turned (λb o hb e=>kk b o (by simpa using hb) e) f0 f1 f3 f4 f5;obtain⟨o,e,cl,d⟩:=id st';exact⟨_,rfl,oA (s:={ s with heap:=h',toks:=tk }) e cl d hT ⟨.str ⟨#[c]⟩,H,I1,⟨u,rfl⟩,⟨rfl,c,hcc,rfl⟩,st',λb hb=>(hf b hb).1⟩⟩
 done:=by
  intro X hP hw hK hc i pins s σ H E I hf st hg;subst hP hw hK;obtain⟨f0,f1,f2,f3,f4,f5⟩:=hf it (by simp);have e:i=z.cps.size:=hg;subst e;exact(W X.A (I.ok.hd hc)).done s _ _ st λh' tk kk=>⟨rfl,I.turned (λb o hb e=>kk b o (by simpa using hb) e) f0 f1 f3 f4 f5⟩
 self:=λA i s Q E st h=>hself A i s Q E st h
def DR(te:TE):TI:=λσ H R=>te σ H λx H1=>∃z,x=.str z/\R (Its z) H1
theorem vd{te:TE}(hl:QE X e te):QI X tg e (DR te):=by
 refine⟨λpins s σ H R I h=>?_⟩;refine thn (hl.out pins s σ H _ I h) λv s1 ⟨x,H1,I1,r1,q1⟩=>?_
 obtain⟨z,rfl,q⟩:=q1;obtain⟨t,rfl⟩:=r1;have fin:∀(T:String) (o:Obj),(s1.heap.push o).IsStrIter s1.heap.objs.size T z t 0->Turn X.prog X.w X.K tg (Its z) [s1.heap.objs.size] s1.heap.objs.size (λi h=>h.IsStrIter s1.heap.objs.size T z t i)->
   PIE X pins σ tg R (.ref s1.heap.objs.size) { s1 with heap:=s1.heap.push o }:=by
  intro T o h0 hT;refine⟨s1.heap.objs.size,[s1.heap.objs.size],_,_,H1,rfl,I1.kept (t':=s1.toks) λb ob e=>EJ _ e,hT,h0,λb hb=>?_,q⟩;have e:b=s1.heap.objs.size:=by simpa using hb
  subst e;exact I1.fpOk (EI _) (I1.hok.fresh (EI _))
 cases ha:z.cps.all (· < 128)
 ·exact wpAny_pyIter_wide ha (fin "str_iterator" _ ⟨_,E5 _ rfl,rfl,rfl⟩ (mT (by decide) _ z t (λA hh=>Walks.strWide hh _ z t) λA i s Q E st h=>wpAny_pyIter_striter_wide st h))
 ·exact wpAny_pyIter_ascii ha (fin "str_ascii_iterator" _ ⟨_,E5 _ rfl,rfl,rfl⟩ (mT (by decide) _ z t (λA hh=>Walks.strAscii hh _ z t) λA i s Q E st h=>wpAny_pyIter_striter_ascii st h))
theorem CW{H:Hp}{te:TE}{R:It->Hp->Prop}(h:te σ H λx H1=>∃z,x=.str z/\R (Its z) H1):DR te σ H R:=h
variable{o e:Expr}{to:TE}{t:TA}{apos cpos:Pos}
def Ap(K:EG)(d:Int)(t:TA):TE:=λσ H Q=>t σ H λvs H1=>∃(l:Addr) (ns:List Int),vs=[.ref l]/\SqL K H1 l (ns.map N7)/\∀m:Int,(ns=[]/\m=d\/m∈ns/\∀a∈ns,a<=m)->Q (.int m) H1
theorem qF {K:EG}{p kpos cp:Pos}{d:Int}(hc:X.calm=true) (hg:Gl X "max") (hm:X.mg "max" = none) (ha:QA X [e] t) (hn:bS e=true:=by rfl) (hK:X.K=K:=by rfl):QE X (.Call (.Name "max" p) [e] [⟨some "default",.Constant (.int d) j cp,kpos⟩] pos) (Ap K d t):=by
 subst hK;refine⟨λpins s σ H Q I h=>?_⟩;refine Ow (eP I hg hm (by decide +kernel:bootBuiltins "max" = some (.builtin "max")) ?_);have he1:On [e] X.env=[(false,eval e X.env)]:=aU hn;refine callWith_kw (thn (ha.out pos pins s σ H _ I h) λus s1 hu=>?_) (by rw[he1];rfl) (by rw[he1];rfl);obtain⟨vs,H1,I1,r1,l,ns,rfl,hq,q⟩:=hu;obtain⟨u,rfl,ru⟩:=cG r1;cases ru;refine Am (wpAny_Constant_int ?_);obtain⟨its,rv,pl,hz⟩:=I1.list hq;have hi:=ck rv;have hl:its.length=ns.length:=hi.length;refine HT.xA (λi=>ns.getD i 0) (I.ok.hd hc) (s:={ s1 with toks:=s1.toks+1 }) pl.isList (λi v hv=>?_) λv h' tk hmx kp=>?_
 ·obtain⟨t1,e1⟩:=HT.lA hi (i:=i) (EM.mp hv).1
  rw[EH,hv]at e1;exact⟨t1,e1⟩
 ·have I2:Inv X pins σ H1 { s1 with heap:=h',toks:=tk }:=I1.kept (t':=tk) kp
  rcases hmx with⟨h0,rfl⟩|⟨i,t1,hi1,rfl,hm1⟩
  ·exact⟨.int d,H1,I2,⟨_,rfl⟩,q d (.inl ⟨List.eq_nil_of_length_eq_zero ⋯,rfl⟩)⟩
  ·refine⟨.int (ns.getD i 0),H1,I2,⟨t1,rfl⟩,q _ (.inr ⟨?_,λa ha=>?_⟩)⟩
   ·rw[EH,EF ⋯]
    exact Fh _
   ·obtain⟨m,hm2,rfl⟩:=GJ.mp ha
    have:=hm1 m ⋯;dsimp only at this;rw[EH (l:=ns) (i:=m),EF hm2]at this;exact this
theorem CY{K:EG}{d:Int}{H:Hp}(h:t σ H λvs H1=>∃(l:Addr) (ns:List Int),vs=[.ref l]/\SqL K H1 l (ns.map N7)/\∀m:Int,(ns=[]/\m=d\/m∈ns/\∀a∈ns,a<=m)->Q (.int m) H1):Ap K d t σ H Q:=h
end
section
variable{X:Cx}
end
theorem qG(z b m:Nat):dg z b (m+1)=((z / b ^ m % b:Nat):Int)::dg z b m:=by
 unfold dg;rw[List.range_succ_eq_map,Fw,Gd];congr 1;apply Hk;intro j hj;have:=FE.mp hj;show((z / b ^ (m+1 - 1 - (j+1)) % b:Nat):Int)=_
 rw[show m+1 - 1 - (j+1)=m - 1 - j by lia]
theorem ve{b:Nat}(hb:2<=b)(z y:Nat):∀m,HT.bH (dg z b m) (dg y b m)=decide (z % b ^ m<y % b ^ m)
 | 0=>by simp[dg,HT.fq,Nat.mod_one]
 | m+1=>by
  rw[qG,qG,HT.aW,ve hb z y m];have hp:0<b ^ m:=M5 ⋯;have ez:z % b ^ (m+1)=z % b ^ m+b ^ m*(z / b ^ m % b):=by rw[Jl,M6]
  have ey:y % b ^ (m+1)=y % b ^ m+b ^ m*(y / b ^ m % b):=by rw[Jl,M6]
  rw[ez,ey];have h1:z % b ^ m<b ^ m:=Hu _ hp;have h2:y % b ^ m<b ^ m:=Hu _ hp;generalize z / b ^ m % b=q at *;generalize y / b ^ m % b=r at *;generalize z % b ^ m=u at *;generalize y % b ^ m=v at *;generalize b ^ m=p at *;by_cases e:q=r
  ·subst e
   rw[if_pos rfl];congr 1;apply propext;constructor<;>intro h<;>lia
  ·rw[if_neg ⋯]
   congr 1;apply propext;constructor
   ·intro h
    have h3:q+1<=r:=by lia
    have h4:p*(q+1)<=p*r:=IB p h3;rw[La,Na]at h4;lia
   ·intro h
    apply Jb;intro g;have h3:r+1<=q:=by lia
    have h4:p*(r+1)<=p*q:=IB p h3;rw[La,Na]at h4;lia
theorem Spelt.lex{ns:List Int}(h:Spelt ns b zs m)(hb:2<=b){x y:Int}{z w:Nat}(hx:ns[i]? = some x)(hy:ns[j]? = some y)(hz:zs[i]? = some z)(hw:zs[j]? = some w):
  HT.bH (dg z b m) (dg w b m)=decide (x<y):=by
 obtain⟨h1,h2⟩:=h.at hb hx hz;obtain⟨h3,h4⟩:=h.at hb hy hw;rw[ve hb,Lj h1,Lj h3];obtain⟨lo,l1,l2⟩:∃lo,lo∈ns/\∀y∈ns,lo<=y:=by
  rcases h with⟨rfl,_,_⟩|⟨lo,hi,q1,_,q3,_⟩
  ·simp at hx
  ·exact⟨lo,q1,λy hy=>(q3 y hy).1⟩
 have e1:=h2 lo l1 l2;have e2:=h4 lo l1 l2;congr 1;apply propext;constructor<;>intro h<;>lia
theorem qH{tb:List (Int×Nat)}(hb:∀z∈tb,1<=z.2/\z.2<=60){z w:Int×Nat}{x y:Int}(hz:tb[i]? = some z)(hw:tb[j]? = some w)(hx:(bL tb)[i]? = some x)(hy:(bL tb)[j]? = some y):
  x<y↔z.1*(w.2:Int)<w.1*(z.2:Int):=by
 unfold bL at hx hy;rw[EN,hz]at hx;rw[EN,hw]at hy;have ex:z.1*((eX (tb.map (·.2)) / z.2:Nat):Int)=x:=EY hx;have ey:w.1*((eX (tb.map (·.2)) / w.2:Nat):Int)=y:=EY hy;clear hx hy;have hzm:=ES hz;have hwm:=ES hw;have d1:z.2∣eX (tb.map (·.2)):=mx (E1.mpr ⟨z,hzm,rfl⟩);have d2:w.2∣eX (tb.map (·.2)):=mx (E1.mpr ⟨w,hwm,rfl⟩);have hL:0<eX (tb.map (·.2)):=my λb h=>by
  obtain⟨z,hz,rfl⟩:=E1.mp h;exact hb z hz
 have p1:=(hb z hzm).1;have p2:=(hb w hwm).1;generalize eX (tb.map (·.2))=L at *;obtain⟨k,rfl⟩:=d1;obtain⟨l,hl⟩:=d2;rw[Hx _ ⋯]at ex;rw[hl,Hx _ ⋯]at ey;subst ex ey;have hk:0<k:=Jt hL;have hl0:0<l:=Jt (hl▸hL);have hc:(z.2:Int)*(k:Int)=(w.2:Int)*(l:Int):=by rw[<-Iq,<-Iq,hl]
 have zp:(0:Int)<z.2:=by lia
 have wp:(0:Int)<w.2:=by lia
 have kp:(0:Int)<k:=by lia
 have hzk:(0:Int)<(z.2:Int)*(k:Int):=JL zp kp
 -- both sides times z.2*w.2
 have e1:z.1*(k:Int)*((z.2:Int)*(w.2:Int))=z.1*(w.2:Int)*((z.2:Int)*(k:Int)):=by
  simp only[IU,Jo,HR]
 have e2:w.1*(l:Int)*((z.2:Int)*(w.2:Int))=w.1*(z.2:Int)*((z.2:Int)*(k:Int)):=by
  rw[hc];simp only[IU,Jo,HR]
 constructor
 ·intro h
  have:=GE h (JL zp wp);rw[e1,e2]at this;exact GG this (Ik hzk)
 ·intro h
  have:=GE h hzk;rw[<-e1,<-e2]at this;exact GG this (Ik (JL zp wp))
theorem vf:∀(a b:List Nat) (m:Nat),(∀c∈a,97<=c)->(∀c∈b,97<=c)->a.length<=m->b.length<=m->
  HT.bH (a.map (λc=>((c:Nat):Int) - 96)++E2 (m - a.length) 0) (b.map (λc=>((c:Nat):Int) - 96)++E2 (m - b.length) 0)=decide (a<b)
 | [],[],m,_,_,_,_=>by
  have e:∀n,HT.bH (E2 n (0:Int)) (E2 n 0)=false:=λn=>by
   induction n with
   | zero=>rfl
   | succ n ih=>rw[FO,HT.aW,if_pos rfl];exact ih
  simp only[Ii,Lv];rw[e];exact(decide_eq_false (Hv _)).symm
 | [],c::b,m,_,hb,_,hm=>by
  obtain⟨k,rfl⟩:∃k,m=k+1:=⟨m - 1,by simp at hm;lia⟩
  have:=hb c (Fn ..);show HT.bH (E2 (k+1) 0) (((c:Int) - 96)::_)=_
  rw[FO,HT.aW,if_neg ⋯,decide_eq_true ⋯];exact(decide_eq_true (List.nil_lt_cons c b)).symm
 | c::a,[],m,ha,_,hm,_=>by
  obtain⟨k,rfl⟩:∃k,m=k+1:=⟨m - 1,by simp at hm;lia⟩
  have:=ha c (Fn ..);show HT.bH (((c:Int) - 96)::_) (E2 (k+1) 0)=_
  rw[FO,HT.aW,if_neg ⋯,decide_eq_false ⋯];exact(decide_eq_false (λh=>nomatch h)).symm
 | c::a,d::b,m,ha,hb,h1,h2=>by
  obtain⟨k,rfl⟩:∃k,m=k+1:=⟨m - 1,by simp at h1;lia⟩
  have ih:=vf a b k (λx h=>ha x (E4 _ h)) (λx h=>hb x (E4 _ h)) (by simpa using h1) (by simpa using h2);have e1:k+1 - (c::a).length=k - a.length:=by simp
  have e2:k+1 - (d::b).length=k - b.length:=by simp
  rw[e1,e2,Fw,Fw,Jp,Jp,HT.aW];by_cases e:c=d
  ·subst e
   rw[if_pos rfl,ih];congr 1;apply propext;rw[JQ];constructor
   ·exact λh=>.inr ⟨rfl,h⟩
   ·rintro(h|⟨_,h⟩)
    ·exact absurd h (FM _)
    ·exact h
  ·rw[if_neg ⋯]
   congr 1;apply propext;rw[JQ];constructor
   ·intro h;exact .inl ⋯
   ·rintro(h|⟨h,_⟩)
    ·lia
    ·exact absurd h e
end L2
namespace HT
open PySem PyProof.Rows PySem.W L2
section
variable{prog:Program}{w:World}{A:Around}{E:Value->Shared->Prop}{s:Shared}
end
section
variable{prog:Program}{w:World}{A:Around}{E:Value->Shared->Prop}{s:Shared}
end
end HT
namespace L2
open PySem PySem.Spec PyProof.Rows PySem.W
section
variable{X:Cx}{pins:List (Addr×Obj)}{σ:St}{H:Hp}{s:Shared}{h':Heap}
end
section
variable{X:Cx}{o e f:Expr}{td ty tx:TE}{pos apos cpos p:Pos}
end
end L2
namespace HT
open PySem PyProof.Rows PySem.W L2
section
variable{prog:Program}{w:World}{A:Around}{E:Value->Shared->Prop}{s:Shared}
end
section
variable{prog:Program}{w:World}{A:Around}{E:Value->Shared->Prop}{s:Shared}
end
section
variable{prog:Program}{w:World}{A:Around}{E:Value->Shared->Prop}{s:Shared}
end
section
variable{prog:Program}{w:World}{A:Around}{E:Value->Shared->Prop}{s:Shared}
end
end HT
namespace L2
open PySem PySem.Spec PyProof.Rows PySem.W
section
variable{X:Cx}{e:Expr}{t:TA}{p p2 pos pos2:Pos}{pins:List (Addr×Obj)}{σ:St}{H:Hp}{s:Shared}
end
section
variable{X:Cx}
end
def Aq(K:Frag)(P:Params)(d:Addr)(kfs:List (Str×Addr)):Prop:=
 ∃(ts:List Tok) (ep:Nat),ts.length=kfs.length/\K.lookup d=some ⟨.type "dict",none,.dict ((kfs.zip ts).map λp=>(⟨Fx P p.1.1,.str p.1.1 p.2,.ref p.1.2⟩:DictEntry)).toArray ep,#[]⟩
def En(d:Addr)(kfs:List (Str×Addr)):R2:=λx y H Q=>∃z f,x=.ref d/\y=.str z/\kfs.lookup z=some f/\Q (.ref f) H
theorem mU{P:Params}{z:Str}{f:Addr}:∀(kfs:List (Str×Addr)) (ts:List Tok),ts.length=kfs.length->kfs.lookup z=some f->
  (((kfs.zip ts).map λp=>(⟨Fx P p.1.1,.str p.1.1 p.2,.ref p.1.2⟩:DictEntry)).find? λe=>FL z e.key).map (·.val)=some (.ref f)
 | [],_,_,h=>by cases h
 | (y,g)::kfs,[],hl,_=>by cases hl
 | (y,g)::kfs,t::ts,hl,h=>by
  rw[GC,Fw,LN];rw[Fg]at h;by_cases e:z=y
  ·subst e
   rw[beq_self_eq_true]at h;cases h;have:FL z (GU z t)=true:=by simp[FL]
   simp only[this];rfl
  ·rw[beq_false_of_ne e]at h
   have:FL z (GU y t)=false:=by
    simp only[FL]
    first
     | exact beq_false_of_ne e
     | exact beq_false_of_ne (E7 e)
     | simpa using e
     | simpa using E7 e
   simp only[this];exact mU kfs ts (by simpa using hl) h
section
variable{X:Cx}
theorem Ar{d:Addr}{kfs:List (Str×Addr)}(hd:Aq X.K X.w.params d kfs):QIx X (En d kfs):=by
 refine⟨λvalue slice pins s σ H x y v u Q I rx ry h hs=>?_⟩;obtain⟨z,f,rfl,rfl,hl,q⟩:=h;cases rx;obtain⟨t,rfl⟩:=ry;obtain⟨ts,ep,hts,hK⟩:=hd;have ho:=I.kIn _ _ hK;have hm:s.heap.MapOf (F5 X.prog X.w) d (λk=>findBy (F5 X.prog X.w).is ((kfs.zip ts).map λp=>(⟨Fx X.w.params p.1.1,.str p.1.1 p.2,.ref p.1.2⟩:DictEntry)).toArray k):=by
  refine⟨_,_,ep,ho,⟨rfl,rfl,rfl⟩,rfl,λe he=>?_,λ_=>rfl⟩;obtain⟨p,hp,rfl⟩:=E1.mp (Lk.mp he);exact⟨p.1.1,by simp[F5,FL],rfl⟩
 refine subscriptTail_builtinR (x:=.ref f) hm.typeIs slot_dict_getitem.lookup (wpAny_getItem_of (Q:=λr s'=>r=.ref f/\EP X pins σ Q r s') (knd:=F5 X.prog X.w) (k:=z) (by simp[F5,FL]) hm (v:=.ref f) ?_ ⟨rfl,.ref f,H,I.tok _,rfl,q⟩) hs;show findBy _ _ _=_
 unfold findBy;rw[Kv];exact mU kfs ts hts hl
def vg(R:V->Sp->Prop)(E:XK)(tf:TE)(t:TA):TE:=λσ H Q=>tf σ H λv H1=>∃sp,R v sp/\t σ H1 λvs H2=>sp vs H2 Q E
theorem mV{R:V->Sp->Prop}{E:XK}{tf:TE}{p:Pos}{es:List Expr}(hf:QE X (.Name x p) tf)
  (hR:∀v sp,R v sp->∃f fd ps CX k,v=.ref f/\FnOk X.prog X.w X.K X.mg X.base CX k f fd ps sp/\Room k X.A/\FZ X.K (.ref f)=true/\Binds X.K fd ps []/\dM CX X E)
  (ha:QA X (e::es) t) (hn:(e::es).all bS=true:=by rfl):QE X (.Call (.Name x p) (e::es) [] pos) (vg R E tf t):=by
 rw[GT,FW]at hn;refine⟨λpins s σ H Q I h=>?_⟩;refine Ow (thn (hf.out pins s σ H _ I h) λu s1 hu=>?_);obtain⟨v,H1,I1,ru,sp,hr,q⟩:=hu;obtain⟨f,fd,ps,CX,k,rfl,F,hro,hk,hb,hx⟩:=hR v sp hr;cases ru;refine IG (h₀:=X.base) I1.ok.mod.kin hk (thn (ha.out pos pins s1 σ H1 _ I1 q) λus s2 hu=>?_) (aU hn.1) (fv hn.2);obtain⟨vs,H2,I2,r,q⟩:=hu;exact⟨I2.kIn,oR (dvs:=[]) (ds:=[]) F hro hb .nil hx I2 r (by rw[Gj];exact q)⟩
theorem BA{R:V->Sp->Prop}{E:XK}{tf:TE}{H:Hp}(h:tf σ H λv H1=>∃sp,R v sp/\t σ H1 λvs H2=>sp vs H2 Q E):vg R E tf t σ H Q:=h
def As(K:Frag):V->List V->Hp->VK->Prop:=λx xs H Q=>∃z l ys,x=.str z/\xs=[.ref l]/\SqL K H l (ys.map N9)/\(ys.map (·.length)).sum+ys.length*z.length<=16777216/\Q (.str (FX z ys)) H
theorem xC:MtR X "str.join" (As X.K):=by
 intro pins s σ H x xs v us Q I rx rs h;obtain⟨z,l,ys,rfl,rfl,hq,hs,q⟩:=h;obtain⟨t,rfl⟩:=rx;obtain⟨u,rfl,ru⟩:=cG rs;cases ru;obtain⟨its,rv,pl,hz⟩:=I.list hq;exact join_list pl.isList (i4 (by simpa using rv)) hs λt' k=>⟨.str (FX z ys),H,I.tok k,⟨_,rfl⟩,q⟩
variable{o e:Expr}{to:TE}{t:TA}{apos cpos:Pos}
theorem fb {K:EG}(ho:QE X o to) (ha:QA X [e] t) (hbase:Oq o ("join" : Str) X.env (eval o X.env)=eval o X.env:=by rfl) (hline:(apos.endLine == cpos.line)=true:=by rfl) (hn:bS e=true:=by rfl) (hK:X.K=K:=by rfl) :
  QE X (.Call (.Attribute o "join" apos) [e] [] cpos) (tBM K "str" (As K) to t):=by subst hK;exact⟨fw Gw PySem.F.slot_str_join PySem.F.type_str_join xC ho.out ha.out hbase hline hn⟩
end
section
variable{X:Cx}{pins:List (Addr×Obj)}{σ:St}{H:Hp}{s:Shared}
variable{N frs:List Str}{x qual:Str}{ix:List Nat}{scope:Scope}{cl:List (Str×Addr)}{params:Arguments}{body:Expr}
section
variable{te:TE}{t:TA}{p pos kpos lpos:Pos}{e:Expr}{k:Nat}{cc P:Addr}
end
end
end L2
namespace L2
open PySem PySem.Spec PyProof.Rows
section
variable{qs:List (Nat×Nat)}{b:Nat}{st:HW}
end
section
variable{X:Cx}{o e f:Expr}{td ty tx:TE}{pos apos cpos p:Pos}
end
section
variable{X:Cx}{o tg:Expr}{td:TE}{pos apos cpos p:Pos}
end
end L2
namespace HT
open PySem PyProof.Rows PySem.W L2
section
variable{prog:Program}{w:World}{A:Around}{E:Value->Shared->Prop}{s:Shared}
end
end HT
namespace L2
open PySem PySem.Spec PyProof.Rows
section
variable{X:Cx}
end
section
variable{X:Cx}{N tgs frs:List Str}{ix:List Nat}{scope:Scope}{cl:List (Str×Addr)}{xc:Str}
end
end L2
namespace HT
open PySem PyProof.Rows PySem.W L2
section
variable{prog:Program}{w:World}{A:Around}{E:Value->Shared->Prop}{h:Heap}{g:Array GenState}{d:Drawn}{t:Nat}{os:OsState}
variable{nm q:Str}{C N f:Addr}{bs bm bmB:List Value}{hdct:Bool}{sn:List Str}{sub:List Value}{ab:Bool}{col:Option Bool}{dd:Option Addr}{k0 k1 k2 k3 k5:Option Value}{B Bn newId nid initId inN:String}{bmN:List Value}
end
section
variable{M:Model}{A:Around}{E:Value->Shared->Prop}{env:Env}
variable{nm q:Str}{C N:Addr}{bs bm:List Value}{hdct:Bool}{sn:List Str}{sub:List Value}{ab:Bool}{col:Option Bool}{dd:Option Addr}{k0 k1 k2 k3 k5:Option Value}{newId:String}
end
end HT
namespace L2
open PySem PySem.Spec PyProof.Rows
section
variable{P:Program}{w:World}{K:EG}{mg:Str->Option Value}{base:Heap}{N:List Str}{qual:Str}{scope:Scope}{f:Addr}{cd:Value}{A:Around}{outer:List Env}{s0:Shared}{H0:Hp}{E:XK}
end
end L2
namespace HT
open PySem PyProof.Rows PySem.W L2
section
variable{prog:Program}{w:World}{A:Around}{E:Value->Shared->Prop}{h:Heap}{g:Array GenState}{d:Drawn}{t:Nat}{os:OsState}
variable{C f e t0:Addr}{K:Frag}{dx:Option Addr}{u:Value}
end
end HT
namespace L2
open PySem PySem.Spec PyProof.Rows PySem.W
section
variable{X:Cx}{o value e:Expr}{es:List Expr}{f x:Str}{pos pos' apos np:Pos}{ta tv:TE}{t:TA}{S:Addr}
end
section
variable{X:Cx}{pins:List (Addr×Obj)}{σ:St}{H:Hp}{s:Shared}
end
section
variable{X:Cx}{e:Expr}{es:List Expr}{t:TA}{np cpos pos p:Pos}{x:Str}{C f:Addr}
end
end L2
namespace HT
open PySem PyProof.Rows PySem.W L2
end HT
namespace L2
open PySem PySem.Spec PyProof.Rows PySem.W
section
variable{D:Ends}{Ex:XW}{σ:St}{H:Hp}{Q:VK}{K:Frag}{C:Addr}{t:TA}{ta tv:TE}{f:Str}{sp:Sp}{E:XK}
end
end L2
namespace L2
open PySem PySem.Spec PyProof.Rows
section
variable{X:Cx}
end
end L2
namespace L2
open PySem PySem.Spec PyProof.Rows PySem.Builtin PySem.Builtin.Str
theorem ku:∀l:List (Str×Tok),Vals ((l.map (·.1)).map N9) (strValues l)
 | []=>.nil
 | p::r=>.cons ⟨p.2,rfl⟩ (ku r)
theorem n8{prog:Program}{w:World}{A:Around}{s:Shared}{t u:Tok}{Q:Value->Shared->Prop}(hy:(y.length == 0)=false)
  (h:∀l k,l.map (·.1)=Gg x y->l.length<=sizeLine->Q (.ref s.heap.objs.size) { s with heap:=s.heap.push { cls:=.type "list",data:=.seq (strValues l).toArray },toks:=k })
  (hsz:x.length+2<=sizeLine):wpAny (model prog w) A (call (.builtin "str.split") [.str x t,.str y u]) Q E s:=by
 have hn:(partsBetween x (occurrences x y 0 x.length (x.length+1)) y.length).length<=sizeLine:=by
  have e1:=StrLaws.occ_length_le x y 0 x.length (x.length+1);rw[length_partsBetween];lia
 have h1s:([(x,t)]:List (Str×Tok)).length<=sizeLine:=by show 1<=_;lia
 cases h1:(decide (x.length<y.length) || decide (strKind x<strKind y))
 ·cases hf:(occurrences x y 0 x.length (x.length+1)).isEmpty
  ·refine OB GZ (OA _ _ _) Hy (Hr _ _) (meets_str_split_sep x y t u h1 hy hf ⋯ hn) ?_
   show wants Q E _ { s with toks:=_,heap:=s.heap.push { cls:=.type "list",data:=.seq (strsFrom s.toks (partsBetween x (occurrences x y 0 x.length (x.length+1)) y.length)).toArray } }
   rw[strsFrom_eq];have e:=numbered_texts s.toks (partsBetween x (occurrences x y 0 x.length (x.length+1)) y.length);refine h (numbered s.toks _) _ (e.trans ((if_neg (ne_true_of_eq_false h1)).trans (if_neg (ne_true_of_eq_false hf))).symm) ?_;rw[<-EE (f:=(·.1)),e];exact hn
  ·exact OB GZ (OA _ _ _) Hy (Hr _ _) (meets_str_split_not_found x y t u h1 hy hf)
    (h [(x,t)] s.toks ((if_neg (ne_true_of_eq_false h1)).trans (if_pos hf)).symm h1s)
 ·exact OB GZ (OA _ _ _) Hy (Hr _ _) (meets_str_split_cannot_occur x y t u h1)
   (h [(x,t)] s.toks (if_pos h1).symm h1s)
def vh:V->List V->Hp->VK->Prop:=λx xs H Q=>∃z y,x=.str z/\xs=[.str y]/\(y.length == 0)=false/\z.length+2<=sizeLine/\∀p,H p=none->Q (.ref p) (upd H p (.lst ((Gg z y).map N9)))
def Au:V->List V->Hp->VK->Prop:=λx xs H Q=>∃z y,x=.str z/\xs=[.str y]/\z.length<=sizeLine/\Q (.str (FH z y)) H
def Eo:R2:=λx y H Q=>∃a b,x=.str a/\y=.str b/\Q (.bl (Hs b a)) H
def Ep(d:Addr)(kfs:List (Str×Addr)):R2:=λx y H Q=>∃z,x=.str z/\y=.ref d/\Q (.bl (kfs.lookup z).isSome) H
def CZ:List V->Hp->VK->Prop:=λxs H Q=>∃z n,xs=[.str z]/\intText? z=some n/\z.length<=640/\Q (.int n) H
def DS(K:EG)(ta tb:TE):TE:=λσ H Q=>ta σ H λx H1=>∃k,uQ K x H1 k/\(k=true->Q x H1)/\(k=false->tb σ H1 Q)
section
variable{X:Cx}
theorem t7:MtR X "str.split" vh:=by
 intro pins s σ H x xs v us Q I rx rs h;obtain⟨z,y,rfl,rfl,hy,hz,q⟩:=h;obtain⟨t,rfl⟩:=rx;obtain⟨u,rfl,ru⟩:=cG rs;obtain⟨t',rfl⟩:=ru;refine n8 hy (λl k e hl=>?_) hz;have hv:=ku l;rw[e]at hv;refine⟨.ref s.heap.objs.size,_,I.laid (t':=k) (λb o q=>EJ _ q) (EI _) (show ObjOk X.prog X.w _ _ _ (.lst ((Gg z y).map N9))from⟨?_,strValues l,0,hv,E5 _ rfl⟩),rfl,q _ (I.hok.fresh (EI _))⟩;rw[<-e,EE,EE];exact hl
theorem xD:MtR X "str.removeprefix" Au:=by
 intro pins s σ H x xs v us Q I rx rs h;obtain⟨z,y,rfl,rfl,hz,q⟩:=h;obtain⟨t,rfl⟩:=rx;obtain⟨u,rfl,ru⟩:=cG rs;obtain⟨t',rfl⟩:=ru;exact call_gives Iw (OA _ _ _) PySem.F.entry_str_removeprefix (PySem.F.args_str_removeprefix_2 _ _) (gives_str_removeprefix z y t t') (post_affix hz _ λt' k=>⟨.str _,H,I.tok k,⟨_,rfl⟩,q⟩)
theorem Av:QOp X (Oo .In) Eo:=by
 refine⟨λpins s σ H x y v u Q I rx ry h=>?_⟩;obtain⟨a,b,rfl,rfl,q⟩:=h;obtain⟨t,rfl⟩:=rx;obtain⟨t',rfl⟩:=ry;exact P.in_str ⟨.bl _,H,I,rfl,q⟩
theorem xE:QC X (.type "int") CZ:=by
 refine⟨λpins s σ H xs us Q I r h=>?_⟩;obtain⟨z,n,rfl,hn,hl,q⟩:=h;obtain⟨u,rfl,ru⟩:=cG r;obtain⟨t,rfl⟩:=ru;exact Nb hn hl ⟨.int n,H,I.tok _,⟨_,rfl⟩,q⟩
variable{o e a b:Expr}{dm:List Expr}{to ta tb:TE}{t:TA}{apos cpos pos:Pos}
theorem mW {K:EG}(ho:QE X o to) (ha:QA X [e] t) (hbase:Oq o ("split" : Str) X.env (eval o X.env)=eval o X.env:=by rfl) (hline:(apos.endLine == cpos.line)=true:=by rfl) (hn:bS e=true:=by rfl) (hK:X.K=K:=by rfl) :
  QE X (.Call (.Attribute o "split" apos) [e] [] cpos) (tBM K "str" vh to t):=by subst hK;exact⟨fw Gw GZ PySem.F.type_str_split t7 ho.out ha.out hbase hline hn⟩
theorem xF {K:EG}(ho:QE X o to) (ha:QA X [e] t) (hbase:Oq o ("removeprefix" : Str) X.env (eval o X.env)=eval o X.env:=by rfl) (hline:(apos.endLine == cpos.line)=true:=by rfl) (hn:bS e=true:=by rfl) (hK:X.K=K:=by rfl) :
  QE X (.Call (.Attribute o "removeprefix" apos) [e] [] cpos) (tBM K "str" Au to t):=by subst hK;exact⟨fw Gw Iw PySem.F.type_str_removeprefix xD ho.out ha.out hbase hline hn⟩
theorem mX{K:EG}(ha:QE X a ta)(hb:QE X (.BoolOp .Or (b::dm) pos) tb)(hK:X.K=K:=by rfl):QE X (.BoolOp .Or (a::b::dm) pos) (DS K ta tb):=⟨by
 subst hK;intro pins s σ H Q I h;refine BoolOp_or (thn (ha.out pins s σ H _ I h) λv s1 ⟨x,H1,I1,r1,k,hk,q1,q2⟩=>?_);refine Om (uR pins s1 σ H1 x v (λc H2=>c=k/\H2=H1) I1 r1 ⟨k,hk,rfl,rfl⟩) (λc s2 q=>?_) λ_ _ z=>z
 obtain⟨H2,I2,rfl,rfl⟩:=q;cases c with
 | true=>exact⟨x,H2,I2,r1,q1 rfl⟩
 | false=>exact hb.out pins s2 σ H2 Q I2 (q2 rfl)⟩
end
theorem kv{P:Params}{z:Str}:∀(kfs:List (Str×Addr)) (ts:List Tok),ts.length=kfs.length->
  (((kfs.zip ts).map λp=>(⟨Fx P p.1.1,.str p.1.1 p.2,.ref p.1.2⟩:DictEntry)).find? λe=>FL z e.key).isSome=(kfs.lookup z).isSome
 | [],_,_=>rfl
 | (y,g)::kfs,[],hl=>by cases hl
 | (y,g)::kfs,t::ts,hl=>by
  rw[GC,Fw,LN,Fg];by_cases e:z=y
  ·subst e
   rw[beq_self_eq_true];have:FL z (GU z t)=true:=by simp[FL]
   simp only[this];rfl
  ·rw[beq_false_of_ne e]
   have:FL z (GU y t)=false:=by
    simp only[FL]
    first
     | exact beq_false_of_ne e
     | exact beq_false_of_ne (E7 e)
     | simpa using e
     | simpa using E7 e
   simp only[this];exact kv kfs ts (by simpa using hl)
theorem Aw{d:Addr}{kfs:List (Str×Addr)}(hd:Aq X.K X.w.params d kfs)(hs:(d == sysModules)=false):QOp X (Oo .In) (Ep d kfs):=by
 refine⟨λpins s σ H x y v u Q I rx ry h=>?_⟩;obtain⟨z,rfl,rfl,q⟩:=h;obtain⟨t,rfl⟩:=rx;cases ry;obtain⟨ts,ep,hts,hK⟩:=hd;have ho:=I.kIn _ _ hK;have hm:s.heap.MapOf (F5 X.prog X.w) d (λk=>findBy (F5 X.prog X.w).is ((kfs.zip ts).map λp=>(⟨Fx X.w.params p.1.1,.str p.1.1 p.2,.ref p.1.2⟩:DictEntry)).toArray k):=by
  refine⟨_,_,ep,ho,⟨rfl,rfl,rfl⟩,rfl,λe he=>?_,λ_=>rfl⟩;obtain⟨p,hp,rfl⟩:=E1.mp (Lk.mp he);exact⟨p.1.1,by simp[F5,FL],rfl⟩
 refine wpAny_in_of (knd:=F5 X.prog X.w) (k:=z) (by simp[F5,FL]) hs hm ?_;have e:(findBy (F5 X.prog X.w).is ((kfs.zip ts).map λp=>(⟨Fx X.w.params p.1.1,.str p.1.1 p.2,.ref p.1.2⟩:DictEntry)).toArray z).isSome=(kfs.lookup z).isSome:=by
  unfold findBy;rw[Kv,Option.isSome_map];exact kv kfs ts hts
 rw[e];exact⟨.bl _,H,I.tok _,rfl,q⟩
section
variable{P:Program}{w:World}{K:EG}{mg:Str->Option Value}{base:Heap}
end
theorem DT{K:EG}{H:Hp}{tb:TE}(h:ta σ H λx H1=>∃k,uQ K x H1 k/\(k=true->Q x H1)/\(k=false->tb σ H1 Q)):DS K ta tb σ H Q:=h
end L2
namespace HT
open PySem PyProof.Rows PySem.W L2
noncomputable def adv(m:Nat)(p:Hw):Hw:=
 if p.more > 0 then{ j:=p.j+1,more:=p.more - 1,i:=p.i,perturb:=p.perturb,dummy:=p.dummy }
 else{ j:=(HZ m p.i p.perturb).1,more:=LO m (HZ m p.i p.perturb).1 - (HZ m p.i p.perturb).1,i:=(HZ m p.i p.perturb).1,perturb:=(HZ m p.i p.perturb).2,dummy:=p.dummy }
noncomputable def trl(m:Nat)(p:Hw):Nat->Hw
 | 0=>p
 | k+1=>trl m (adv m p) k
noncomputable def dq(m:Nat)(h:Int):Hw:={ j:=Ia h % (m+1),more:=LO m (Ia h % (m+1)) - Ia h % (m+1),i:=Ia h % (m+1),perturb:=Ia h,dummy:=none }
section
variable{prog:Program}{w:World}{A:Around}{E:Value->Shared->Prop}{s:Shared}
end
section
variable{prog:Program}{w:World}{A:Around}{E:Value->Shared->Prop}{s:Shared}
end
section
variable{prog:Program}{w:World}{A:Around}{E:Value->Shared->Prop}{s:Shared}
end
section
variable{prog:Program}{w:World}{A:Around}{E:Value->Shared->Prop}{s:Shared}
end
end HT
namespace L2
open PySem PySem.Spec PyProof.Rows PySem.W
section
variable{X:Cx}{e:Expr}{t:TA}{p p2 pos pos2:Pos}{pins:List (Addr×Obj)}{σ:St}{H:Hp}{s:Shared}
end
end L2
namespace L2
open PySem PySem.Spec PyProof.Rows
end L2
namespace L2
open PySem PySem.Spec PyProof.Rows PySem.W
section
variable{X:Cx}{e o:Expr}{to te:TE}{t:TA}{pos apos cpos:Pos}
end
end L2
namespace L2
open PySem PySem.Spec PyProof.Rows
noncomputable def st0:List Str->List V->St
 | [],_=>[]
 | _::N,v::vs=>some v::st0 N vs
 | _::N,[]=>none::st0 N []
theorem qI:∀(N:List Str) (vs:List V),vs.length<=N.length->dq N vs=st0 N vs
 | [],[],_=>rfl
 | x::N,[],h=>by
  have:=qI N [] (EU _);unfold st0;rw[<-this];rfl
 | x::N,v::vs,h=>by
  have:=qI N vs (Nat.le_of_succ_le_succ h);unfold st0;rw[<-this];unfold dq;simp
theorem nwD{H0 H:Hp}(s:Same H0 H)(h:H p=none)(o:HO):∃H1,upd H p o=H1/\Same H0 H1/\Same H H1/\H1 p=some o:=⟨_,rfl,s.new h,(Oc H).new h,ae⟩
theorem nwS{H0 H:Hp}(s:Same H0 H)(h:H p=none)(o:HO):∃H1,upd H p o=H1/\Same H0 H1/\H1 p=some o:=⟨_,rfl,s.new h,ae⟩
theorem nwR{H:Hp}(h:H p=none)(o:HO):∃H1,upd H p o=H1/\Same H H1/\H1 p=some o:=⟨_,rfl,(Oc H).new h,ae⟩
theorem owS{H0 H:Hp}(s:Same H0 H)(h:H0 p=none)(o:HO):∃H1,upd H p o=H1/\Same H0 H1/\H1 p=some o/\∀q u,q≠p->H q=some u->H1 q=some u:=⟨_,rfl,s.own h,ae,λq u n e=>by rw[ak n];exact e⟩
noncomputable abbrev Ent:=Str×Stmt×List Str
noncomputable abbrev en(x:Str)(s:Stmt)(p:List Str):Ent:=(x,s,p)
def BP(e:Ent):Prop:=∀(kV doc pm:Value) (an:Option Addr) (cdv ct:Value) (us:List Value),us.length=e.2.2.length->bindArgs (Gk e.1 e.1 (dN e.2.1) (cB e.2.1) (aL e.2.1) .none kV doc pm an cdv ct) ⟨us,[]⟩=pure (e.2.2.zip us)
noncomputable def AB:List Ent->Prop
 | []=>True
 | e::r=>BP e/\AB r
theorem AB.get:∀{l:List Ent}{i:Nat}{e:Ent},AB l->l[i]? = some e->BP e
 | [],i,e,_,h=>by simp at h
 | a::l,0,e,⟨b,_⟩,h=>by cases h;exact b
 | a::l,i+1,e,⟨_,b⟩,h=>AB.get (l:=l) b h
def FT(K:EG)(mg:Str->Option Value)(f:Addr)(d:FuncData)(x:Str)(s:Stmt)(p:List Str):Prop:=mg x=some (.ref f)/\Fun K x x s f d/\Binds K d p []
noncomputable def Al(K:EG):List Ent->List Addr->List FuncData->Prop
 | [],_,_=>True
 | (x,s,_)::r,f::fs,d::ds=>(Fe K mainGlobals x=some (some (.ref f))/\Fun K x x s f d)/\Al K r fs ds
 | _,_,_=>False
theorem Al.nil{K:EG}:Al K [] [] []:=trivial
theorem Al.cons{K:EG}{s:Stmt}{p:List Str}{f:Addr}{d:FuncData}{r:List Ent}{fs:List Addr}{ds:List FuncData}(h:Fe K mainGlobals x=some (some (.ref f)))(g:Fun K x x s f d)(k:Al K r fs ds):Al K ((x,s,p)::r) (f::fs) (d::ds):=⟨⟨h,g⟩,k⟩
theorem Al.get{K:EG}{f0:Addr}{d0:FuncData}{x:Str}{s:Stmt}{p:List Str}:∀{l:List Ent}{fs:List Addr}{ds:List FuncData}{i:Nat},Al K l fs ds->l[i]? = some (x,s,p)->Fe K mainGlobals x=some (some (.ref (fs.getD i f0)))/\Fun K x x s (fs.getD i f0) (ds.getD i d0)
 | [],_,_,_,_,h=>by simp at h
 | (_,_,_)::l,f::fs,d::ds,0,⟨a,_⟩,h=>by cases h;exact a
 | (_,_,_)::l,f::fs,d::ds,i+1,⟨_,a⟩,h=>Al.get (l:=l) (fs:=fs) (ds:=ds) (i:=i) a h
theorem Al.ft{K:EG}{mg:Str->Option Value}{l:List Ent}{fs:List Addr}{ds:List FuncData}(X:K.In h)(G:h.Ns mainGlobals mg)(al:Al K l fs ds)(ab:AB l)(f0:Addr)(d0:FuncData)(i:Nat){s:Stmt}{p:List Str}(e:l[i]? = some (x,s,p)):
  FT K mg (fs.getD i f0) (ds.getD i d0) x s p:=
 let g:=al.get (f0:=f0) (d0:=d0) e
 ⟨FG X G g.1,g.2,g.2.binds (AB.get ab e)⟩
section
variable{P:Program}{w:World}{K:EG}{mg:Str->Option Value}{base:Heap}
theorem okT{st:Stmt}{f:Addr}{fd:FuncData}{N ps:List Str}{sp:Sp}(F:FT K mg f fd x st ps)
  (hbody:∀{cdv:Value}{A:Around}{outer:List Env}{s:Shared}{vs:List V}{E:XK}(H:Hp) (Q:VK),Room k (A.deeper (envOfC x (aL st) s.heap.objs.size f cdv))->N.Nodup->sp vs H Q E->
   ∃t,QB (sH CX0 P w K mg base N x (aL st) f cdv A outer s H E).nox (cB st) t/\t { nx:=λ_ H'=>Q .non H',rt:=Q } (st0 N vs) H)
  (S:FnScope N ps (aL st):=by exact⟨rfl,rfl,rfl,by decide +kernel,rfl,by decide +kernel,by decide +kernel⟩)
  (len:∀{vs H Q E},sp vs H Q E->vs.length=ps.length:=by intro _ _ _ _ h;repeat (first|(obtain⟨rfl,_⟩:=h;rfl)|obtain⟨_,h⟩:=h)):FnOk P w K mg base CX0 (k+1) f fd ps sp:=
 F.2.1.okQ S (λ_ _ _ _ h=>len h) λcdv A outer s H vs Q E hr h=>by
  rw[qI N vs (by rw[len h,<-S.pre,FN];exact Nat.min_le_right ..)];exact hbody H Q hr S.nd h
end
section
variable{X:Cx}{e:Expr}{es:List Expr}{te:TE}{t:TA}{x:Str}{p pos:Pos}{i:Nat}{j k:Nat}{f:Addr}{fd:FuncData}{ps:List Str}{sp:Sp}{st:Stmt}
theorem az (F:FnOk X.prog X.w X.K X.mg X.base CX0 j f fd ps sp) (hr:Room k X.A) (h:FT X.K X.mg f fd x st ps) (ha:QA X (e::es) t) (hd:j<=k:=by decide) (hg:Gl X x:=by rfl) (hn:(e::es).all bS=true:=by rfl) (hdb:(x == ("__debug__" : Str))=false:=by decide) :
  QE X (.Call (.Name x p) (e::es) [] pos) (oQ sp [] E0 t):=wU F (hr.mono hd) hg h.1 h.2.1.kp h.2.2 fM ha hn hdb
noncomputable def ndB:List Str->Bool
 | []=>true
 | x::r=>!r.elem x && ndB r
theorem vi:∀{l:List Str},ndB l=true->l.Nodup
 | [],_=>.nil
 | x::r,h=>by
  unfold ndB at h;rw[FW]at h;refine GF.mpr ⟨λz=>?_,vi h.2⟩;rw[List.elem_eq_true_of_mem z]at h;exact absurd h.1 (by decide)
theorem aF(he:QE X e te)(hN:X.N.Nodup:=by assumption)(hi:X.N[i]? = some x:=by rfl)(hx:Loc X.env.scope x:=by first|exact .inl rfl|exact .inr rfl)(hs:OC e (some (.Name x pos')) pos.line X.env=pure false:=by rfl)(hf:X.fn x=true\/X.env.scope.names.lookup x=some .local:=by first|exact .inl rfl|exact .inr rfl|assumption):
  QS X (.Assign [.Name x pos'] e pos) (ow te (dJ i)):=zR hN hi hx he hs hf
theorem aN(hN:X.N.Nodup:=by first|assumption|exact vi (by kernel_rfl))(hi:X.N[i]? = some x:=by rfl)(hx:Loc X.env.scope x:=by first|exact .inl rfl|exact .inr rfl)(hf:X.fn x=true\/X.env.scope.names.lookup x=some .local:=by first|exact .inl rfl|exact .inr rfl|assumption):QG X (.Name x pos) (dJ i):=wV hN hi hx hf
end
end L2
namespace L2
open PySem PySem.Spec PyProof.Rows PySem.Builtin PySem.Builtin.Str
def Ax:V->List V->Hp->VK->Prop:=λx xs H Q=>∃z y,x=.str z/\xs=[.str y]/\(y.length == 0)=false/\z.length<=sizeLine/\∀p,H p=none->Q (.ref p) (upd H p (.tup [.str (FY z y).1,.str (FY z y).2.1,.str (FY z y).2.2]))
def DU:V->List V->Hp->VK->Prop:=λx xs H Q=>∃z y,x=.str z/\xs=[.str y]/\Q (.bl (L0 z y)) H
section
variable{X:Cx}
theorem xG:MtR X "str.partition" Ax:=by
 intro pins s σ H x xs v us Q I rx rs h;obtain⟨z,y,rfl,rfl,hy,hz,q⟩:=h;obtain⟨t,rfl⟩:=rx;obtain⟨u,rfl,ru⟩:=cG rs;obtain⟨t',rfl⟩:=ru;refine OB IV (OA _ _ _) PySem.F.entry_str_partition (PySem.F.args_str_partition_2 _ _) (meets_str_partition z y t t' hy hz) ?_;have q':=λp=>q p
 unfold FY at q';revert q';cases occurrences z y 0 z.length 1<;>intro q'<;>
  exact⟨.ref s.heap.objs.size,_,I.laid (λb o w'=>EJ _ w') (EI _) (show ObjOk X.prog X.w _ _ _ (.tup [.str _,.str _,.str _])from⟨by show 3<=sizeLine;decide,[.str _ _,.str _ _,.str _ _],.cons ⟨_,rfl⟩ (.cons ⟨_,rfl⟩ (.cons ⟨_,rfl⟩ .nil)),_,E5 _ rfl,rfl,_,rfl⟩),rfl,q' _ (I.hok.fresh (EI _))⟩
theorem Ay:MtR X "str.startswith" DU:=by
 intro pins s σ H x xs v us Q I rx rs h;obtain⟨z,y,rfl,rfl,q⟩:=h;obtain⟨t,rfl⟩:=rx;obtain⟨u,rfl,ru⟩:=cG rs;obtain⟨t',rfl⟩:=ru;exact call_gives IM (OA _ _ _) PySem.F.entry_str_startswith (PySem.F.args_str_startswith_2 _ _) (gives_str_startswith z y t t') ⟨.bl _,H,I,rfl,q⟩
variable{o e v w:Expr}{to te tf:TE}{t:TA}{apos cpos pos p1 p2 p3:Pos}{a:Str}{j1:Nat}
theorem xH {K:EG}(ho:QE X o to) (ha:QA X [e] t) (hbase:Oq o ("partition" : Str) X.env (eval o X.env)=eval o X.env:=by rfl) (hline:(apos.endLine == cpos.line)=true:=by rfl) (hn:bS e=true:=by rfl) (hK:X.K=K:=by rfl) :
  QE X (.Call (.Attribute o "partition" apos) [e] [] cpos) (tBM K "str" Ax to t):=by subst hK;exact⟨fw Gw IV PySem.F.type_str_partition xG ho.out ha.out hbase hline hn⟩
theorem Az {K:EG}(ho:QE X o to) (ha:QA X [e] t) (hbase:Oq o ("startswith" : Str) X.env (eval o X.env)=eval o X.env:=by rfl) (hline:(apos.endLine == cpos.line)=true:=by rfl) (hn:bS e=true:=by rfl) (hK:X.K=K:=by rfl) :
  QE X (.Call (.Attribute o "startswith" apos) [e] [] cpos) (tBM K "str" DU to t):=by subst hK;exact⟨fw Gw IM PySem.F.type_str_startswith Ay ho.out ha.out hbase hline hn⟩
end
section
variable{σ:St}{H:Hp}{Q:VK}{a:Str}{te tf:TE}
end
end L2
namespace HT
open PySem PySem.Spec PyProof.Rows PySem.W L2
noncomputable def lH(k m:Str×List Int):Bool:=if k.1=m.1 then bH k.2 m.2 else decide (k.1.cps.toList<m.1.cps.toList)
theorem qJ(a b:Str×List Int)(h:lH a b=true):lH b a=false:=by
 unfold lH at *;by_cases g:a.1=b.1
 ·rw[if_pos g]at h
  rw[if_pos g.symm];exact i0 _ _ h
 ·rw[if_neg g]at h
  rw[if_neg (E7 g)];have h1:=of_decide_eq_true h;exact decide_eq_false λh2=>Hv _ (Mi h1 h2)
theorem t8(a b c:Str×List Int)(h1:lH a b=false)(h2:lH b c=false):lH a c=false:=by
 obtain⟨a1,a2⟩:=a;obtain⟨b1,b2⟩:=b;obtain⟨c1,c2⟩:=c;unfold lH at *;dsimp only at *;by_cases g:a1=b1
 ·subst g
  rw[if_pos rfl]at h1;by_cases g':a1=c1
  ·rw[if_pos g']at h2 ⊢
   exact kl _ _ _ h1 h2
  ·rw[if_neg g']at h2 ⊢
   exact h2
 ·rw[if_neg g]at h1
  by_cases g':b1=c1
  ·subst g'
   rw[if_neg g];exact h1
  ·rw[if_neg g']at h2
   have e1:=JM.mp (of_decide_eq_false h1);have e2:=JM.mp (of_decide_eq_false h2);by_cases g2:a1=c1
   ·subst g2
    exact absurd (xy (List.le_antisymm e2 e1)) g
   ·rw[if_neg g2];exact decide_eq_false (JM.mpr (List.le_trans e2 e1))
theorem xI (ks:List (Str×List Int)):Lt (λi j=>lH (ks.getD i ("",[])) (ks.getD j ("",[]))):=⟨λi j h=>qJ _ _ h,λi j k h1 h2=>t8 _ _ _ h1 h2⟩
section
variable{prog:Program}{w:World}{A:Around}{E:Value->Shared->Prop}{s:Shared}
theorem ua{x y:Addr}{its its2:Array Value}{us2:List Value}{t t2:Tok}{k m:Str×List Int}{Q:Bool->Shared->Prop}(hx:IsTup s.heap x its)(hy:IsTup s.heap y its2)(ex:its.toList=.str k.1 t::us)(ey:its2.toList=.str m.1 t2::us2)(hi:Ou us k.2)(hj:Ou us2 m.2)
  (h:Q (lH k m) s) :
  wpAny (model prog w) A (keyLt' (tuples' true) (.ref x) (.ref y)) Q E s:=by
 obtain⟨o,ho,hc,n,hd⟩:=id hx;obtain⟨o2,ho2,hc2,n2,hd2⟩:=id hy;refine kat_lt ho hd ho2 hd2 ?_;rw[ex,ey,GC];refine kat_cons (wpAny_eqBool_str ?_);unfold lH at h;by_cases g:k.1=m.1
 ·rw[if_pos g]at h
  rw[decide_eq_true g];refine kat_yes (jv hi hj 1 true ?_ h);have e1:its.size=its.toList.length:=rfl;have e2:its2.size=its2.toList.length:=rfl;rw[e1,e2,ex,ey,Fk,Fk,<-hi.length,<-hj.length];simp
 ·rw[if_neg g]at h
  rw[decide_eq_false g];refine kat_no ?_;exact qD h
theorem qK{vs fs:List Value}{Q:SortKind->Shared->Prop}(h2:2<=vs.length)(hl:vs.length=fs.length)(t:KatTups s.heap vs fs)(hf:∀f∈fs,∃x u,f=.str x u)
  (h:Q (tuples' true) s):wpAny (model prog w) A (keyKind' vs.toArray) Q E s:=by
 refine kat_kind (T:=Gh "str") t ⋯ (λv hv=>?_) rfl h;obtain⟨x,u,rfl⟩:=hf v hv;exact Looks.of_pure rfl
theorem kx:∀(as:List Addr) (cs:List (Str×List Int)),as.length=cs.length->(∀(i:Nat) a k,as[i]? = some a->cs[i]? = some k->∃its us u,IsTup s.heap a its/\its.toList=GU k.1 u::us)->∃fs,KatTups s.heap (as.map Fi) fs/\fs.length=as.length/\∀f∈fs,∃x u,f=GU x u
 | [],[],_,_=>⟨[],.nil,rfl,λ_ h=>nomatch h⟩
 | [],_::_,h,_=>by cases h
 | _::_,[],h,_=>by cases h
 | a::as,c::cs,h1,h3=>by
  obtain⟨fs,q1,q2,q3⟩:=kx as cs (by simpa using h1) (λi a k e1 e2=>h3 (i+1) a k (by simpa using e1) (by simpa using e2));obtain⟨its,us,u,⟨o,ho,hc,n,hd⟩,hi⟩:=h3 0 a c rfl rfl;obtain⟨its'⟩:=its;simp only at hi;subst hi;exact⟨.str c.1 u::fs,KatTups.cons (f:=.str c.1 u) ho hc hd (by simp) q1,by simp[q2],λf hf=>(EO.mp hf).elim (λe=>⟨_,_,e⟩) (q3 f)⟩
end
end HT
namespace L2
open PySem PySem.Spec PyProof.Rows
section
variable{X:Cx}
def qL(K:EG):List V->Hp->VK->Prop:=λxs H Q=>∃(l:Addr) (rs:List Addr) (ks:List (Str×List Int)),xs=[.ref l]/\SqL K H l (rs.map Oa)/\rs.length=ks.length/\rs.length<64/\
 (∀(i:Nat) a k,rs[i]? = some a->ks[i]? = some k->SqT K H a (N9 k.1::k.2.map N7))/\
 ∀(d:Addr) (p:List Nat),H d=none->p.Perm (EZ rs.length)->p.Pairwise (Ah λi j=>HT.lH (ks.getD i ("",[])) (ks.getD j ("",[])))->Q (.ref d) (upd H d (.lst (p.map λi=>.ref (rs.getD i 0))))
theorem lI:cb X (.builtin "sorted") (qL X.K):=by
 intro pins s σ H xs us Q I r h;obtain⟨l,rs,ks,rfl,hq,hlen,h64,ht,q⟩:=h;obtain⟨u,rfl,rx⟩:=cG r;cases rx;obtain⟨its,r',pl,hz⟩:=I.list hq;obtain rfl:=fA r';have hl:(rs.map Fi).length=rs.length:=EE _;have tup:∀(h':Heap),(∀b o,s.heap.get? b=some o->h'.get? b=some o)->∀(i:Nat) a k,rs[i]? = some a->ks[i]? = some k->∃its us u,IsTup h' a its/\its.toList=.str k.1 u::us/\Ou us k.2:=λh' hk i a k e1 e2=>by
  obtain⟨its,r1,⟨o,ho,hc⟩,_⟩:=I.tuple (ht i a k e1 e2);cases r1 with
  | cons rv r1=>
   obtain⟨u,rfl⟩:=rv;exact⟨_,_,u,⟨o,hk _ _ ho,hc⟩,rfl,ck r1⟩
 have get:∀i,i<(rs.map Fi).length->rs[i]? = some (rs.getD i 0)/\ks[i]? = some (ks.getD i ("",[]))/\(rs.map Fi).getD i Ft=.ref (rs.getD i 0):=λi hi=>by
  rw[hl]at hi;have h3:i<ks.length:=by lia
  refine⟨?_,?_,?_⟩
  ·rw[EH,EF hi];rfl
  ·rw[EH,EF h3];rfl
  ·rw[EH,EH,EN,EF hi];rfl
 have fin:∀p:List Nat,p.Perm (EZ (rs.map Fi).length)->p.Pairwise (Ah λi j=>HT.lH (ks.getD i ("",[])) (ks.getD j ("",[])))->
   EP X pins σ Q (.ref (s.heap.objs.size+1)) { s with heap:=sortedAll s.heap (rs.map Fi) (Fo (p.map λi=>(rs.map Fi).getD i Ft)) }:=λp hp hs=>by
  obtain⟨c,hc⟩:=sortedAll_at s.heap (rs.map Fi) (Fo (p.map λi=>(rs.map Fi).getD i Ft));have hpl:=hp.length_eq;rw[Fz,hl]at hpl;rw[hl]at hp;refine⟨.ref (s.heap.objs.size+1),_,I.laid (t':=s.toks) (λb o e=>sortedAll_old e) (Hh _) (show ObjOk X.prog X.w _ _ _ (.lst (p.map λi=>.ref (rs.getD i 0)))from⟨?_,_,c,gA λi hi=>?_,hc⟩),rfl,q _ p (I.hok.fresh (Hh _)) hp hs⟩
  ·rw[EE,hpl,Oj];lia
  ·rw[(get i (by rw[hl];exact FE.mp (hp.mem_iff.mp hi))).2.2]
   rfl
 refine HT.fU (κ:=tuples' true) pl.isList ⋯ (HT.xI ks) (λh' Q' h2 k hQ=>?_) (λh' i j Q' hi hj k hQ=>?_) fin
 ·obtain⟨fs,z1,z2,z3⟩:=HT.kx (s:={ s with heap:=h' }) rs ks hlen (λi a k1 e1 e2=>by obtain⟨its,us,u,z1,z2,_⟩:=tup h' k i a k1 e1 e2;exact⟨its,us,u,z1,z2⟩)
  exact HT.qK h2 (by rw[hl,z2]) z1 z3 hQ
 ·obtain⟨g1,g2,g3⟩:=get i hi
  obtain⟨k1,k2,k3⟩:=get j hj;obtain⟨its,us,u,t1,e,i1⟩:=tup h' k i _ _ g1 g2;obtain⟨its',us',u',t1',e',i1'⟩:=tup h' k j _ _ k1 k2;rw[g3,k3];exact HT.ua t1 t1' e e' i1 i1' hQ
def mY(K:EG):List V->Hp->VK->Prop:=λxs H Q=>u4 K xs H Q\/qL K xs H Q
theorem n9 (hu:X.A.in1.in1.units<cLine):cb X (.builtin "sorted") (mY X.K):=by
 intro pins s σ H xs us Q I r h;rcases h with h|h
 ·exact nV hu pins s σ H xs us Q I r h
 ·exact lI pins s σ H xs us Q I r h
theorem ub {K:EG}(hu:X.A.units+64<cLine) (hK:X.K=K:=by rfl):QC X (.builtin "sorted") (mY K):=by subst hK;exact⟨n9 (show X.A.units+1+1<cLine by lia)⟩
end
end L2
set_option maxHeartbeats 0
namespace Fs
open PySem PySem.Spec PyProof.Rows L2
local macro_rules
 | `(tactic| walk_at "s")=>`(tactic| exact ⟨rfl,rfl,rfl,by decide +kernel,rfl,by decide +kernel,by decide +kernel⟩)
local macro_rules
 | `(tactic| nofun)=>do
  let q ←("Do Dp Cg Dq Ci Cj D8 Dr Ck EB Ds Ea Dt Cm Du DT EC Eb Ec Ed Bs Cs DB Cw DC Bu Bv ED Dw Dx DD Cy Bw Cz Ee Cn Dy Co Dz DA D9 jk Eg Eh CA CF DH By Bz CI DK DL Ej CH pI Bx DO CO yI CP CQ DJ CJ Ei di CW CY BA".splitOn " ").foldrM (fun n (a:Lean.TSyntax `tactic)=>`(tactic| first | (with_reducible refine $(Lean.mkIdent (NK n)) ?_) | $a:tactic)) (←`(tactic| fail))
  `(tactic| (repeat (first | $q:tactic|(with_reducible refine in_xset ?_;dsimp only[F7])|(with_reducible refine sZ ?_;dsimp only[F7])|((with_reducible show BI _ _ _ _);refine⟨_,rfl,?_⟩)|(with_reducible refine Dv ?c ?_;(case c=>first|(show(0:Int)<_;omega)|exact Cp (by omega) (by omega)|exact Ef (by omega) (by omega)|exact cdivP (by omega) (by omega) (by omega)|exact Cq (by omega) (by omega)|exact Cr (by omega) (by omega)|exact cpow (by decide) (by decide) (by decide)))|((with_reducible show zw _ _ _ _ _);with_reducible refine zF (by first|assumption|exact ae) ?_;refine⟨_,rfl,?_⟩)|((with_reducible show Br _ _ _ _ _);with_reducible refine wL (by first|assumption|exact ae) ?_;refine⟨_,rfl,?_⟩)|((with_reducible show oY _ _ _ _ _);with_reducible refine wM (by first|assumption|exact ae) ?_;refine⟨_,rfl,?_⟩;dsimp only[Int.reduceToNat,F7])|(with_reducible refine wZ ?_;dsimp only[F7])|((with_reducible show BX _ _ _ _ _ _);refine⟨_,rfl,?_⟩))))
def top(i:Nat):Stmt:=EL.main.body.getD i (.Pass ⟨0,0,0,0⟩)
noncomputable abbrev bU:Stmt:=fL (top 42) 0
noncomputable abbrev cM:Stmt:=fL (top 42) 1
noncomputable abbrev eQ:Stmt:=fL (top 42) 2
noncomputable abbrev dY:Stmt:=fL (top 42) 3
noncomputable abbrev cN:Stmt:=fL (top 42) 4
noncomputable abbrev cO:Stmt:=fL (top 94) 0
noncomputable abbrev gk:Stmt:=top 132
set_option genSizeOfSpec false in
set_option genInjectivity false in
structure Ad where
 f:Nat->Addr
 d:Nat->FuncData
 bX:Addr
 bW:FuncData
 cX:Addr
 cU:FuncData
 eT:Addr
 eS:FuncData
 eB:Addr
 eA:FuncData
 cW:Addr
 cT:FuncData
 cV:Addr
 cS:FuncData
 Bh:Addr
 Bg:FuncData
 cc:Addr
 pt:Addr
 bs:Heap
 wd:World
 b8:Addr
 fJ:Addr
 kR:Addr
 iz:Addr
 aG:Addr
 ag:Addr
 fj:Tok
 iD:Tok
 iE:Tok
 df:Tok
 dF:Tok
 de:Tok
 eC:Tok
 fh:Tok
 fi:Tok
noncomputable def tab:List Ent:=[en "counts" (top 6) ["row","base"],en "begins" (top 7) ["counts"],en "many_columns" (top 8) ["rows"],en "tally" (top 9) ["rows","base"],en "beginnings" (top 10) ["rows","column"],en "is_parted" (top 11) ["often"],en "order_by_figure" (top 12) ["row","base"],en "parts_of" (top 14) ["first","often","column"],en "from_first" (top 15) ["rows","base"],en "many_goings_on" (top 16) ["longer"],en "ahead_of_first" (top 17) ["lists"],en "is_order" (top 19) ["thing"],en "check_order" (top 20) ["thing","many"],en "own_copy" (top 21) ["thing"],en "put" (top 22) ["things","order"],en "back_of" (top 23) ["order"],en "rings" (top 24) ["order"],en "told_order" (top 25) ["rows"],en "walked" (top 28) ["row","base"],en "heap_sorted" (top 29) ["rows","base"],en "runs" (top 31) ["rows"],en "merged" (top 32) ["one","other"],en "merged_places" (top 33) ["rows","one","other"],en "merging_round" (top 34) ["lengths"],en "ahead_of_runs" (top 35) ["lengths"],en "by_runs" (top 36) ["rows"],en "is_due" (top 38) ["lengths"],en "moves_of_ring" (top 41) ["ring"],en "many_figures" (top 44) ["n","base"],en "figures" (top 45) ["n","base","many"],en "common_measure" (top 48) ["one","other"],en "least_bottom" (top 49) ["parts"],en "whole_numbers" (top 50) ["parts"],en "number_rows" (top 51) ["numbers","base"],en "text_row" (top 52) ["text","columns"],en "text_rows" (top 53) ["texts"],en "spelled" (top 54) ["kind","keys","base"],en "from_last" (top 56) ["rows","base"],en "ahead_of_last" (top 57) ["tally"],en "last_ahead" (top 59) ["rows","base"],en "first_ahead" (top 60) ["rows","base"],en "runs_ahead" (top 61) ["rows","base"],en "last_done" (top 62) ["rows","base"],en "first_done" (top 63) ["rows","base"],en "runs_done" (top 64) ["rows","base"],en "moves_ahead" (top 68) ["kind","keys","base"],en "cheapest" (top 69) ["kind","keys","base"],en "ordered" (top 70) ["way","kind","keys","base"],en "is_made_of" (top 77) ["word","signs"],en "is_number" (top 78) ["word"],en "read_number" (top 79) ["word"],en "read_part" (top 80) ["word"],en "read_text" (top 81) ["word"],en "is_kind" (top 83) ["word"],en "read_keys" (top 84) ["kind","words"],en "write_part" (top 85) ["part"],en "write_key" (top 86) ["kind","key"],en "write_keys" (top 87) ["kind","keys"],en "write_row" (top 88) ["things"],en "write_rows" (top 89) ["rows"],en "rows_of" (top 95) ["desk"],en "order_of" (top 96) ["desk"],en "poured_keys" (top 97) ["desk"],en "pour_of" (top 98) ["desk"],en "answer_sort" (top 99) ["desk","way"],en "answer_order" (top 100) ["desk"],en "answer_back" (top 101) ["desk"],en "answer_rings" (top 102) ["desk"],en "answer_ahead" (top 103) ["desk"],en "answer_cheapest" (top 104) ["desk"],en "answer_walk" (top 105) ["desk"],en "answer_puts" (top 106) ["desk"],en "answer_poured" (top 107) ["desk"],en "answer_heaps" (top 108) ["desk"],en "read_kind" (top 110) ["words"],en "read_deed" (top 111) ["kind","words","room"],en "read_ask" (top 112) ["words"],en "read_deeds" (top 113) ["kind","numbered"],en "read_rows" (top 114) ["text"],en "answered" (top 115) ["desk","ask","way"],en "run" (top 116) ["text"],en "_law_tape" (top 118) ["_law_script","_law_k"],en "_law_draw" (top 119) ["_law_tape_here","_law_many_here"],en "_law_many" (top 120) ["_law_tape_here"],en "_law_base" (top 121) ["_law_tape_here"],en "_law_key" (top 122) ["_law_tape_here","_law_kind"],en "_law_part" (top 123) ["_law_top","_law_bottom"],en "_law_keys" (top 124) ["_law_tape_here","_law_kind","_law_many_here"],en "_law_order" (top 125) ["_law_keys_here"],en "_law_words" (top 126) ["_law_things"],en "_law_rings" (top 127) ["_law_order_here"],en "_law_walk" (top 128) ["_law_order_here"],en "_law_parted" (top 129) ["_law_words_here"],en "_law_are_answers" (top 130) ["_law_found","_law_due_here"],en "_law_due" (top 131) ["_law_word","_law_keys_here"]]
structure Tx (K:EG) (mg:Str->Option Value) (t:Ad):Prop where
 fn:∀(i:Nat){x:Str}{s:Stmt}{p:List Str},tab[i]? = some (x,s,p)->FT K mg (t.f i) (t.d i) x s p
 ff:Mk K t.ag t.bX
 fe:Fun K "__init__" "RingWalk.__init__" bU t.bX t.bW
 fg:Binds K t.bW ["self","things","order"] []
 iw:Meth K t.ag "step" t.cX
 ir:Fun K "step" "RingWalk.step" cM t.cX t.cU
 iB:Binds K t.cU ["self"] []
 rY:Meth K t.ag "row" t.eT
 rX:Fun K "row" "RingWalk.row" eQ t.eT t.eS
 rZ:Binds K t.eS ["self"] []
 rO:Meth K t.ag "hand" t.eB
 rN:Fun K "hand" "RingWalk.hand" dY t.eB t.eA
 rP:Binds K t.eA ["self"] []
 ef:Meth K t.ag "left" t.cW
 iq:Fun K "left" "RingWalk.left" cN t.cW t.cT
 eh:Binds K t.cT ["self"] []
 iu:Mk K t.aG t.cV
 ip:Fun K "__init__" "Desk.__init__" cO t.cV t.cS
 iA:Binds K t.cS ["self","kind","base"] []
 Dh:Fun K "law" "law" gk t.Bh t.Bg
 l9:mg "abs" = none
 rS:mg "all" = none
 nB:mg "bool" = none
 c4:mg "enumerate" = none
 kW:mg "int" = none
 aV:mg "isinstance" = none
 bA:mg "len" = none
 iG:mg "list" = none
 md:mg "max" = none
 ou:mg "min" = none
 rT:mg "ord" = none
 bQ:mg "range" = none
 fK:mg "sorted" = none
 fk:mg "str" = none
 uH:mg "sum" = none
 dh:mg "tuple" = none
 uI:mg "zip" = none
 Ez:(t.d 17).code=.ref t.cc
 EA:Ic K t.cc t.pt=true
 Ey:t.bs.BuiltinsAt mg t.pt
 kU:mg "READERS" = some (.ref t.b8)
 iF:Aq K t.wd.params t.b8 [("number",(t.f 50)),("part",(t.f 51)),("text",(t.f 52))]
 vE:mg "ASKS" = some (.ref t.fJ)
 nA:Aq K t.wd.params t.fJ [("order",(t.f 65)),("back",(t.f 66)),("rings",(t.f 67)),("ahead",(t.f 68)),("cheapest",(t.f 69)),("walk",(t.f 70)),("puts",(t.f 71)),("poured",(t.f 72)),("heaps",(t.f 73))]
 DY:mg "DONE" = some (.ref t.kR)
 BB:Aq K t.wd.params t.kR [("last",(t.f 42)),("first",(t.f 43)),("runs",(t.f 44))]
 Bi:mg "WAYS" = some (.ref t.iz)
 uG:∀H,SqT K H t.iz [.str "last",.str "first",.str "runs"]
 yE:mg "Desk" = some (.ref t.aG)
 l8:mg "RingWalk" = some (.ref t.ag)
 eN:(t.b8 == sysModules)=false
 jR:(t.fJ == sysModules)=false
 dc:Cls K t.aG
 cZ:NoAttr K t.aG "kind"
 cY:NoAttr K t.aG "base"
 bY:NoAttr K t.aG "laid"
 bM:NoAttr K t.aG "pourings"
 aA:Cls K t.ag
 aD:NoAttr K t.ag "things"
 bh:NoAttr K t.ag "held"
 bD:NoAttr K t.ag "plan"
 bg:NoAttr K t.ag "done"
 l7:mg "TEXT_BASE" = some (.int 27 t.fj)
 rQ:mg "FIGURES" = some (.str "0123456789" t.iD)
 rR:mg "LETTERS" = some (.str "abcdefghijklmnopqrstuvwxyz" t.iE)
 iS:mg "MOST_LETTERS" = some (.int 20 t.df)
 jQ:mg "MOST_BOTTOM" = some (.int 60 t.dF)
 iR:mg "MOST_FIGURES" = some (.int 18 t.de)
 kT:mg "LEAST_BASE" = some (.int 2 t.eC)
 l6:mg "MOST_BASE" = some (.int 64 t.fh)
 iC:mg "MOST_KEYS" = some (.int 200 t.fi)
theorem mZ:bootBuiltins "abs" = some (.builtin "abs"):=by decide +kernel
theorem vj:bootBuiltins "all" = some (.builtin "all"):=by decide +kernel
theorem xJ:bootBuiltins "bool" = some (.type "bool"):=by decide +kernel
theorem kz:bootBuiltins "int" = some (.type "int"):=by decide +kernel
theorem bu:bootBuiltins "isinstance" = some (.builtin "isinstance"):=by decide +kernel
theorem aR:bootBuiltins "len" = some (.builtin "len"):=by decide +kernel
theorem jC:bootBuiltins "list" = some (.type "list"):=by decide +kernel
theorem vm:bootBuiltins "max" = some (.builtin "max"):=by decide +kernel
theorem qM:bootBuiltins "min" = some (.builtin "min"):=by decide +kernel
theorem vn:bootBuiltins "ord" = some (.builtin "ord"):=by decide +kernel
theorem qN:bootBuiltins "sorted" = some (.builtin "sorted"):=by decide +kernel
theorem dH:bootBuiltins "str" = some (.type "str"):=by decide +kernel
theorem AA:bootBuiltins "sum" = some (.builtin "sum"):=by decide +kernel
theorem dD:bootBuiltins "tuple" = some (.type "tuple"):=by decide +kernel
theorem sc_told_order:FnScope ["rows"] ["rows"] (aL (top 25)):=by walk_at "s"
theorem sc_RingWalk___init__:FnScope ["self","things","order"] ["self","things","order"] (aL bU):=by walk_at "s"
theorem sc_RingWalk_step:FnScope ["self","move"] ["self"] (aL cM):=by walk_at "s"
theorem sc_RingWalk_left:FnScope ["self"] ["self"] (aL cN):=by walk_at "s"
theorem sc_Desk___init__:FnScope ["self","kind","base"] ["self","kind","base"] (aL cO):=by walk_at "s"
theorem sc_law:FnScope ["_law_script","_law_k","_law_tape_here","_law_kind","_law_rows","_law_keys_here","_law_due_here","_law_turn","_law_ask","_law_word"] ["_law_script"] (aL gk):=by walk_at "s"
section
variable{P:Program}{w:World}{K:EG}{mg:Str->Option Value}{base:Heap}{t:Ad}
theorem jD(r:List Nat):NV r=(c9 r).map N7:=z9 r
section
variable{K:EG}{H:Hp}{Q:VK}
theorem lJ{lo hi:Option Int}(h1:H a=some (.lst xs))(h:∀p H',Same H H'->H' p=some (.lst (oV xs lo hi))->Q (.ref p) H'):Ce K (.ref a) lo hi H Q:=⟨a,xs,rfl,N4 h1,λp hp=>h p _ ((Oc H).new hp) ae⟩
end
theorem bz (T:Tx K mg t):FnOk P t.wd K mg t.bs CX0 1 (t.f 82) (t.d 82) ["_law_tape_here","_law_many_here"] zP:=by
 refine okT (N:=["_law_tape_here","_law_many_here","_law_found","_law_once","_law_twice"]) (T.fn 82 rfl) (λH Q hr nd h=>?_)
 ·obtain⟨p,m,rfl,⟨a,b,c,hp,ha⟩,hm,hm2,k⟩:=h
  refine⟨_,(af (aY (av nO (aH (aT (K:=K)) (qv 0) ah) ah (ax _)) (af (aF (i:=2) (aC iK (aH (aT (K:=K)) (qv 0) ah) (qv 1)))
   (af (dR (aC dz (aH (aT (K:=K)) (qv 0) ah) (qv 1)) (qv 0) ah)
   (ai (au (qv 2))))) aK)
   (af (dR (aC eV (aH (aT (K:=K)) (qv 0) ah) ah) (qv 0) ah)
   (af (aF (i:=3) (aC iK (aC fP (aC eV (aH (aT (K:=K)) (qv 0) ah) (aC fP ah (aH (aT (K:=K)) (qv 0) ah))) ah) ah))
   (af (aF (i:=4) (aC iK (aC fP (qv 3) (aC eV (aC iK (qv 3) ah) (aH (aT (K:=K)) (qv 0) ah))) ah))
   (ai (au (aC iK (aC dz (aC fP (qv 4) (aC eV (aC iK (qv 4) ah) ah)) ah) (qv 1)))))))),?_⟩
  dsimp only[st0];nofun;refine br (λh0=>?_) (λh0=>?_)
  ·nofun
   exact k _ _ (LP _ ⋯) (Kw _ hm) (Tape.mk (Int.ediv_nonneg ha ⋯))
  ·nofun
   exact k _ _ (LP _ ⋯) (Kw _ hm) (Tape.mk ha)
theorem xK (T:Tx K mg t):FnOk P t.wd K mg t.bs CX0 1 (t.f 81) (t.d 81) ["_law_script","_law_k"] (zO K):=by
 refine okT (N:=["_law_script","_law_k","_law_cell"]) (T.fn 81 rfl) (λH Q hr nd h=>?_)
 ·obtain⟨a,ns,k,rfl,hS,hk,q⟩:=h
  refine⟨_,(af (aF (i:=2) (jm (av wY (qv 1) (aq (a8 (K:=K)) (by rfl) T.bA aR (aj (qv 0) aa)) (ax _)) (aH (aT (K:=K)) (qv 0) (qv 1)) ah))
   (ai (au (aP (aj (aC fP (aq mn (by rfl) T.l9 mZ (aj (qv 2) aa)) (aQ pA (by rfl) T.kW kz (aj (dQ CC (aq mn (by rfl) T.l9 mZ (aj (qv 2) aa)) (aC wW ah ah) (ax _)) aa))) (aj (aC iK (aC eV (aC eV (qv 2) (aC fP ah (qv 1))) ah) ah) (aj ah aa))))))),?_⟩
  dsimp only[st0];nofun;refine aJ hS ?_;nofun;refine br (λh0=>?_) (λh0=>?_)
  ·nofun
   have hlt:k.toNat<ns.length:=by rw[EE]at h0;lia
   have hget:atI (ns.map N7) k=some (N7 ns[k.toNat]):=by
    have e:k=(k.toNat:Int):=by lia
    have:=bc (xs:=ns.map N7) (j:=k.toNat) (v:=N7 ns[k.toNat]) (by simp[hlt]);rw[<-e]at this;exact this
   refine bq hS hget ?_;generalize ns[k.toNat]=cell;nofun;exact⟨aI (by simp),λp hp=>q p _ hp (λb o e=>by rw[ak (ao e hp)];exact e) ⟨_,_,_,ae,L1 (by split<;>lia) (by(repeat' split)<;>lia)⟩⟩
  ·nofun
   exact⟨aI (by simp),λp hp=>q p _ hp (λb o e=>by rw[ak (ao e hp)];exact e) ⟨_,_,_,ae,L1 (by split<;>lia) (by(repeat' split)<;>lia)⟩⟩
theorem xM (T:Tx K mg t):FnOk P t.wd K mg t.bs CX0 2 (t.f 84) (t.d 84) ["_law_tape_here"] zQ:=by
 refine okT (N:=["_law_tape_here"]) (T.fn 84 rfl) (λH Q hr nd h=>?_)
 ·obtain⟨p,rfl,hT,k⟩:=h
  refine⟨_,(ai (au (aH (aT (K:=K)) (aP (aj ah (aj ah (aj ah (aj ah (aj ah (aj (aC eV ah (az (bz T) hr (T.fn 82 rfl) (aj (qv 0) (aj ah aa)))) aa))))))) (az (bz T) hr (T.fn 82 rfl) (aj (qv 0) (aj ah aa)))))),?_⟩;dsimp only[st0];nofun;refine⟨p,63,rfl,hT,by decide,by decide,λr H1 r0 r1 S1=>?_⟩;nofun;refine⟨aI (by simp),λq hq=>?_⟩;nofun;refine⟨p,6,rfl,(S1.new hq).tape,by decide,by decide,λr' H2 q0 q1 S2=>?_⟩;obtain⟨v,e,hv⟩:=dP (xs:=[N7 2,N7 3,N7 10,N7 16,N7 64,N7 (2+r)]) q0 q1;refine bq (N4 (S2.keep q _ ae (S1.tape.ne hq))) e ?_;simp only[EO,Fl,or_false]at hv;rcases hv with rfl|rfl|rfl|rfl|rfl|rfl<;>exact k _ _ ⋯ ⋯ ((S1.new hq).trans S2)
def xN:Sp:=λvs H Q _=>∃(a:Addr) (os:List Nat) (n:Nat),vs=[.ref a]/\(H a=some (.lst (NV os))\/False)/\Ord os n/\n<=60/\∀H',Same H H'->Q (.bl true) H'
theorem g9 (T:Tx K mg t):FnOk P t.wd K mg t.bs CX0 1 (t.f 11) (t.d 11) ["thing"] xN:=by
 refine okT (N:=["thing","met","place"]) (T.fn 11 rfl) (λH Q hr nd h=>?_)
 ·obtain⟨a,os,n,rfl,hs,hO,hn,k⟩:=h
  have hlen:=hO.len;rcases hs with ta|ta
  ·refine⟨_,(af (aY (c5 (cD (aq (w9 (K:=K)) (by rfl) T.aV bu (aj (qv 0) (aj (bP (aj (c8 rfl T.iG jC (v:=.ty "list") rfl) (aj (c8 rfl T.dh dD (v:=.ty "tuple") rfl) aa))) aa))))) (ai (au gP)) aK)
   (af (aF (i:=1) (aC tH (aP (aj gP aa)) (aq (a8 (K:=K)) (by rfl) T.bA aR (aj (qv 0) aa))))
   (af (cf Fp rfl (bx (K:=K) (qv 0)) (aN (i:=2)) (af (aY (Od (eU (cD (aq (iY (K:=K)) (by rfl) T.aV bu (aj (qv 2) (aj (c8 rfl T.nB xJ (v:=.ty "bool") rfl) aa)))) (gc (c5 (cD (aq (iY (K:=K)) (by rfl) T.aV bu (aj (qv 2) (aj (c8 rfl T.kW kz (v:=.ty "int") rfl) aa)))))))) (ai (au gP)) aK)
   (af (aY (Od (eU (av wY (qv 2) ah (ax _)) (eU (av CC (qv 2) (aq (a8 (K:=K)) (by rfl) T.bA aR (aj (qv 0) aa)) (ax _)) (gc (cD (aH (aT (K:=K)) (qv 1) (qv 2))))))) (ai (au gP)) aK)
   (ai (dR gP (qv 1) (qv 2))))))
   (ai (au gP))))),?_⟩
   dsimp only[st0];nofun;refine⟨aI (by simp),λtp htp=>?_⟩;obtain⟨H0,e9,s0,ttp⟩:=nwR htp (.tup [V.ty "list",V.ty "tuple"]);rw[e9];nofun;refine tK (s0 _ _ ta) ttp ?_;nofun;refine⟨aI (by simp),λq0 hq0=>?_⟩;obtain⟨H1,e9,s1,t0⟩:=nwS s0 hq0 (.lst [N8 false]);rw[e9];nofun;refine aJ (N4 (s1 _ _ ta)) ?_;rw[bt];refine⟨q0,_,_,rfl,rfl,t0,by lia,by lia,aI (by simp;lia),λm hm=>?_⟩;have efl:(E2 ((os.length:Nat):Int).toNat [N8 false]).flatten=(E2 os.length false).map N8:=by
    show(E2 os.length [N8 false]).flatten=_
    rw[GW,GP]
   rw[efl];obtain⟨H2,e9,s2,tm⟩:=nwS s1 hm (.lst ((E2 os.length false).map N8));rw[e9];have hmn:H m=none:=s1.free hm;nofun;refine⟨a,rfl,⟨_,N4 (s2 _ _ ta)⟩,eE (a:=a) (xs:=NV os) (λi σ H'=>Same H H'/\(∃met:List Bool,H' m=some (.lst (met.map N8))/\met.length=n/\∀(j x:Nat),os[j]? = some x->met[x]? = some (decide (j<i)))/\∃v,σ=[some (Oa a),some (Oa m),v]) ⟨s2,⟨_,tm,by simp[hlen],λj x e=>?_⟩,none,rfl⟩ (λi σ H' _ h=>N4 (h.1 _ _ ta)) ?_ ?_⟩
   ·have:=hO.lt x (ES e)
    rw[GR,if_pos ⋯];simp
   ·rintro i x σ H3 hx ⟨s3,⟨met,tm3,hml,hmt⟩,v,rfl⟩
    obtain⟨r,rfl,hr,hrm,hi⟩:=aX hx;have hrn:=hO.lt r hrm;have hmr:=hmt i r hr;rw[decide_eq_false (FM i)]at hmr;nofun;refine gO ⋯ ?_;nofun;refine aJ (N4 (s3 _ _ ta)) ?_;rw[bt];nofun;refine gO ⋯ ?_;nofun;refine bq (N4 tm3) (bc (by rw[EN,hmr];rfl)) ?_;nofun;refine gb tm3 (gg rfl (by rw[EE];lia)) ?_;rw[<-Kr];refine⟨s3.own hmn,⟨met.set r true,ae,by simpa using hml,λj x e=>?_⟩,_,rfl⟩;rw[G4];by_cases hrx:r=x
    ·subst hrx
     have:=hO.inj i j r hr e;subst this;rw[if_pos rfl,if_pos ⋯,decide_eq_true ⋯]
    ·rw[if_neg hrx,hmt j x e]
     have:j≠i:=λz=>hrx (by subst z;rw[hr]at e;exact EY e)
     congr 1;exact decide_eq_decide.mpr ⋯
   ·rintro σ H3 ⟨s3,_,v,rfl⟩
    nofun;exact k H3 s3
  ·exact ta.elim
def C0(K:EG):Sp:=λvs H Q _=>∃(a:Addr) (os:List Nat) (n:Nat),vs=[.ref a,.int n]/\(H a=some (.lst (NV os))\/False)/\Ord os n/\n<=60/\∀H',Same H H'->Q .non H'
theorem iM (T:Tx K mg t):FnOk P t.wd K mg t.bs CX0 2 (t.f 12) (t.d 12) ["thing","many"] (C0 K):=by
 refine okT (N:=["thing","many"]) (T.fn 12 rfl) (λH Q hr nd h=>?_)
 ·obtain⟨a,os,n,rfl,hs,hO,hn,k⟩:=h
  refine⟨_,(ai (aY (Od (eU (c5 (cD (az (g9 T) hr (T.fn 11 rfl) (aj (qv 0) aa)))) (gc (av yF (aq (a8 (K:=K)) (by rfl) T.bA aR (aj (qv 0) aa)) (qv 1) (ax _))))) (ai dy) aK)),?_⟩;dsimp only[st0];nofun;refine⟨a,os,n,rfl,hs,hO,hn,λH1 s1=>?_⟩;nofun;refine⟨a,NV os,rfl,hs.elim (λh=>.inl (N4 (s1 _ _ h))) (λh=>h.elim),?_⟩;rw[bt,hO.len];nofun;refine wN rfl ?_;nofun;exact k H1 s1
theorem qO {K:EG}{H:Hp}(s:H p=some (.tup xs)) (h:Q (.bl false) H):rW K [.ref p,.ty "list"] H Q:=⟨_,_,_,_,rfl,.tup s,rfl,h⟩
def AC:Sp:=λvs H Q _=>∃x,vs=[x]/\Th H x/\∀y H',Same H H'->ThE H' x y->Q y H'
theorem lK (T:Tx K mg t):FnOk P t.wd K mg t.bs CX0 1 (t.f 13) (t.d 13) ["thing"] AC:=by
 refine okT (N:=["thing","parts","firsts","part","at"]) (T.fn 13 rfl) (λH Q hr nd h=>?_)
 ·obtain⟨x,rfl,hx,k⟩:=h
  obtain⟨xs,hxl,hxs,hxc⟩:∃xs:List V,xs.length<=2/\(∀z∈xs,Sc z)/\((Sc x/\xs=[])\/∃t,x=.ref t/\H t=some (.tup xs)/\0<xs.length):=by
   rcases hx with h|⟨t,xs,rfl,ht,h0,h2,hs⟩
   ·exact⟨[],EU _,(λz hz=>nomatch hz),.inl ⟨h,rfl⟩⟩
   ·exact⟨xs,h2,hs,.inr ⟨t,rfl,ht,h0⟩⟩
  refine⟨_,(af (aF (i:=1) (aP (aj (qv 0) aa)))
   (af (aF (i:=2) (aP aa))
   (af (eG Fp (av wY (aq (a8 (K:=K)) (by rfl) T.bA aR (aj (qv 2) aa)) (aq (a8 (K:=K)) (by rfl) T.bA aR (aj (qv 1) aa)) (ax _)) (af (aF (i:=3) (aH (aT (K:=K)) (qv 1) (aq (a8 (K:=K)) (by rfl) T.bA aR (aj (qv 2) aa))))
   (af (bf (aO (K:=K) (qv 2) (aj (aq (a8 (K:=K)) (by rfl) T.bA aR (aj (qv 1) aa)) aa)))
   (ai (aY (cD (aq (xk (K:=K)) (by rfl) T.aV bu (aj (qv 3) (aj (bP (aj (c8 rfl T.iG jC (v:=.ty "list") rfl) (aj (c8 rfl T.dh dD (v:=.ty "tuple") rfl) aa))) aa)))) (ai (bf (nS (K:=K) (qv 1) (aj (qv 3) aa)))) aK)))))
   (af (cf Fp rfl (pP rfl T.bQ (aj (aC fO (aq (a8 (K:=K)) (by rfl) T.bA aR (aj (qv 1) aa)) ah) (aj (j9 kb ah) (aj (j9 kb ah) aa)))) (aN (i:=4)) (af (aF (i:=3) (aH (aT (K:=K)) (qv 1) (qv 4)))
   (ai (aY (cD (aq (iY (K:=K)) (by rfl) T.aV bu (aj (qv 3) (aj (c8 rfl T.iG jC (v:=.ty "list") rfl) aa)))) (ai (dR (dw (pz (K:=K)) (qv 1) (dr (aH (aT (K:=K)) (qv 2) (qv 4))) (dr (aC eV (aH (aT (K:=K)) (qv 2) (qv 4)) (aq (a8 (K:=K)) (by rfl) T.bA aR (aj (qv 3) aa))))) (qv 1) (qv 4))) (ai (aY (cD (aq (iY (K:=K)) (by rfl) T.aV bu (aj (qv 3) (aj (c8 rfl T.dh dD (v:=.ty "tuple") rfl) aa)))) (ai (dR (aQ (gv (K:=K)) (by rfl) T.dh dD (aj (dw (pz (K:=K)) (qv 1) (dr (aH (aT (K:=K)) (qv 2) (qv 4))) (dr (aC eV (aH (aT (K:=K)) (qv 2) (qv 4)) (aq (a8 (K:=K)) (by rfl) T.bA aR (aj (qv 3) aa))))) aa)) (qv 1) (qv 4))) aK))))))
   (ai (au (aH (aT (K:=K)) (qv 1) ah))))))),?_⟩
  dsimp only[st0];nofun;refine⟨aI (by simp),λpl hpl=>?_⟩;obtain⟨H1,e9,s1,tp1⟩:=nwR hpl (.lst [x]);rw[e9];nofun;refine⟨aI (by simp),λfl hfl=>?_⟩;have hfn:H fl=none:=s1.free hfl;have hpf:pl≠fl:=ao tp1 hfl;obtain⟨H2,e9,s2,e8,(tf2:H2 fl=some (.lst (NV [])))⟩:=nwD s1 hfl (.lst []);rw[e9];have tp2:=e8 _ _ tp1;nofun;refine⟨λc σ H'=>∃(fs:List Nat),c=1+xs.length - fs.length/\fs.length<=1+xs.length/\Same H H'/\H' fl=some (.lst (NV fs))/\((fs=[]/\H' pl=some (.lst [x]))\/(fs[0]? = some 1/\H' pl=some (.lst (x::xs))))/\∃v3 v4,σ=[some x,some (Oa pl),some (Oa fl),v3,v4],⟨_,[],rfl,by simp,s2,tf2,.inl ⟨rfl,tp2⟩,_,_,rfl⟩,?_⟩;rintro c σ H3 ⟨fs,rfl,hfs,s3,tf3,hcase,v3,v4,rfl⟩;rcases hcase with⟨rfl,tp3⟩|⟨hf0,tp3⟩
  ·nofun
   refine aJ (N4 tf3) ?_;nofun;refine aJ (N4 tp3) ?_;nofun;refine pq (by show((0:Nat):Int)<((1:Nat):Int);decide) ?_;refine⟨_,λ_ _ z=>z,?_⟩;nofun;refine aJ (N4 tf3) ?_;nofun;refine⟨aZ tf3,?_⟩;nofun;refine aJ (N4 tp3) ?_;nofun;refine aM tf3 (ar (by simp[bt])) ?_;have s4:=s3.own (o:=.lst (NV [1])) hfn;have tf4:(upd H3 fl (.lst (NV [1]))) fl=some (.lst (NV [1])):=ae;have tp4:(upd H3 fl (.lst (NV [1]))) pl=some (.lst [x]):=by rw[ak hpf];exact tp3
   have eap:NV []++[N7 (([x]:List V).length:Nat)]=NV [1]:=rfl;rw[eap];generalize upd H3 fl (.lst (NV [1]))=H4 at s4 tf4 tp4;nofun;refine⟨aI (by simp),λtp htp=>?_⟩;obtain⟨H5,e9,s5,e8,ttp⟩:=nwD s4 htp (.tup [V.ty "list",V.ty "tuple"]);rw[e9];have tf5:=e8 _ _ tf4;have tp5:=e8 _ _ tp4;nofun;rcases hxc with⟨hsc,rfl⟩|⟨t,rfl,ht,h0⟩
   ·refine mF ttp hsc ?_
    nofun;exact⟨_,by simp,[1],rfl,by simp,s5,tf5,.inr ⟨rfl,tp5⟩,_,_,rfl⟩
   ·refine tN (s5 _ _ ht) ttp ?_
    nofun;refine⟨aZ tp5,?_⟩;nofun;refine nT tp5 (s5 _ _ ht) (aI (by simp;lia)) ?_;exact⟨_,by simp,[1],rfl,by simp,s5.own hpl,by rw[ak (E7 hpf)];exact tf5,.inr ⟨rfl,ae⟩,_,_,rfl⟩
  ·have hf1:0<fs.length:=cE hf0
   nofun;refine aJ (N4 tf3) ?_;rw[bt];nofun;refine aJ (N4 tp3) ?_;rw[Fk];nofun;refine br (λg=>?_) (λg=>?_)
   ·refine⟨_,λ_ _ z=>z,?_⟩
    have hlt:fs.length<1+xs.length:=by lia
    obtain⟨i,hi⟩:∃i,fs.length=i+1:=⟨fs.length - 1,by lia⟩
    have hix:i<xs.length:=by lia
    have hget:(x::xs)[fs.length]? = some xs[i]:=by rw[hi,Ju,EF hix]
    nofun;refine aJ (N4 tf3) ?_;rw[bt];refine bq (N4 tp3) (v:=xs[i]) (bc hget) ?_;have hsc:=hxs _ (Fh hix);generalize xs[i]=part at hsc;nofun;refine⟨aZ tf3,?_⟩;nofun;refine aJ (N4 tp3) ?_;rw[Fk];nofun;refine aM tf3 (by rw[bt];exact ar ⋯) ?_;rw[fR];obtain⟨H4,e9,s4,tf4,e8⟩:=owS s3 hfn (.lst (NV (fs++[xs.length+1])));rw[e9];have tp4:=e8 _ _ hpf tp3;nofun;refine⟨aI (by simp),λtp htp=>?_⟩;obtain⟨H5,e9,s5,e8,ttp⟩:=nwD s4 htp (.tup [V.ty "list",V.ty "tuple"]);rw[e9];have tf5:=e8 _ _ tf4;have tp5:=e8 _ _ tp4;nofun;refine mF ttp hsc ?_;nofun;exact⟨_,by rw[Fd,Gf];lia,fs++[xs.length+1],rfl,by rw[Fd,Gf];lia,s5,tf5,.inr ⟨by rw[E6 hf1];exact hf0,tp5⟩,_,_,rfl⟩
   ·have hfl2:fs.length=1+xs.length:=by lia
    nofun;refine aJ (N4 tp3) ?_;rw[Fk];nofun;refine⟨xs.length+1,rfl,by lia,pH (n:=xs.length+1) (λj σ H'=>Same H H'/\H' fl=some (.lst (NV fs))/\(∃y,H' pl=some (.lst (y::xs))/\(j<xs.length+1->y=x)/\(j=xs.length+1->ThE H' x y))/\∃v3 v4,σ=[some x,some (Oa pl),some (Oa fl),v3,v4]) ⟨s3,tf3,⟨x,tp3,λ_=>rfl,λh=>by lia⟩,_,_,rfl⟩ (λi σ H' hi _=>hi) (λσ H' _=>EI _) ?_ ?_⟩
    ·rintro j x0 σ H4o H4 hj ⟨s4,tf4,⟨y,tp4,hy1,hy2⟩,v3,v4,rfl⟩ ⟨rfl,rfl⟩
     have hyx:=hy1 hj;subst hyx;by_cases hjm:j=xs.length
     ·have e0:xs.length+1 - 1 - j=0:=by lia
      rw[e0];nofun;refine bq (N4 tp4) (v:=y) (bc (j:=0) rfl) ?_;nofun;rcases hxc with⟨hsc,hxn⟩|⟨t,hyt,ht,h0⟩
      ·refine mG hsc ?_
       nofun;refine mH hsc ?_;nofun;exact⟨s4,tf4,⟨y,tp4,λ_=>rfl,λ_=>.inl ⟨hsc,rfl⟩⟩,_,_,rfl⟩
      ·rw[hyt]
       have ht4:=s4 _ _ ht;refine qO ht4 ?_;nofun;refine tD ht4 ?_;nofun;refine bq (N4 tf4) (jq (i:=0) rfl hf0) ?_;nofun;refine⟨_,rfl,?_⟩;nofun;refine bq (N4 tf4) (jq (i:=0) rfl hf0) ?_;nofun;refine wR (N6 ht4) ?_;nofun;refine⟨_,rfl,?_⟩;refine⟨pl,_,rfl,N4 tp4,λz hz=>?_⟩;have ecut:oV (y::xs) (some ((1:Nat):Int)) (some (((1:Nat):Int)+(xs.length:Nat)))=xs:=by
        have e1:((1:Nat):Int)+(xs.length:Nat)=((1+xs.length:Nat):Int):=by lia
        unfold oV;rw[e1,HT.oU,HT.oU,Fk];have m1:min 1 (xs.length+1)=1:=by lia
        have m2:min (1+xs.length) (xs.length+1)=xs.length+1:=by lia
        rw[m1,m2,List.drop_succ_cons,IE,ER ⋯]
       rw[ecut];obtain⟨H5,e9,s5,e8,tz⟩:=nwD s4 hz (.lst xs);rw[e9];have tf5:=e8 _ _ tf4;have tp5:=e8 _ _ tp4;nofun;refine fz (N4 tz) λu hu=>?_
       obtain⟨H6,e9,s6,e8,tu⟩:=nwD s5 hu (.tup xs);rw[e9];have tf6:=e8 _ _ tf5;have tp6:=e8 _ _ tp5;have hup:u≠pl:=λe=>by rw[e,tp5]at hu;cases hu
       nofun;refine gb tp6 (gg (i:=0) rfl (by simp)) ?_;have s7:=s6.own (o:=.lst ((y::xs).set 0 (Oa u))) hpl;refine⟨s7,by rw[ak (E7 hpf)];exact tf6,⟨Oa u,by rw[ae];rfl,λh=>by lia,λ_=>.inr ⟨t,u,xs,rfl,rfl,s7 _ _ ht,by rw[ak hup];exact tu,h0,hxl,hxs⟩⟩,_,_,rfl⟩
     ·obtain⟨i,hi,hil⟩:∃i,xs.length+1 - 1 - j=i+1/\i<xs.length:=⟨xs.length - j - 1,by lia,by lia⟩
      rw[hi];have hsc:=hxs _ (Fh hil);nofun;refine bq (N4 tp4) (v:=xs[i]) (bc (by rw[Ju,EF hil])) ?_;generalize xs[i]=part at hsc;nofun;refine mG hsc ?_;nofun;refine mH hsc ?_;nofun;exact⟨s4,tf4,⟨y,tp4,λ_=>rfl,λh=>by lia⟩,_,_,rfl⟩
    ·rintro σ H4 ⟨s4,tf4,⟨y,tp4,hy1,hy2⟩,v3,v4,rfl⟩
     nofun;refine bq (N4 tp4) (v:=y) (bc (j:=0) rfl) ?_;exact k y H4 s4 (hy2 rfl)
def RowsT(H:Hp)(ps:List Addr)(rss:List (List Nat)):Prop:=ps.length=rss.length/\∀(i:Nat) p r,ps[i]? = some p->rss[i]? = some r->H p=some (.tup (NV r))
theorem RowsT.same{H:Hp}(h:RowsT H ps rss)(e:Same H H1):RowsT H1 ps rss:=⟨h.1,λi p z a c=>e _ _ (h.2 i p z a c)⟩
theorem RowsT.snoc{H:Hp}(h:RowsT H ps rss)(e:H p=some (.tup (NV r))):RowsT H (ps++[p]) (rss++[r]):=by
 refine⟨by simp[h.1],λi q y a c=>?_⟩;rcases bR a with⟨l,a⟩|⟨l,a⟩
 ·rcases bR c with⟨_,c⟩|⟨l',c⟩
  ·exact h.2 i q y a c
  ·have:=h.1;lia
 ·rcases bR c with⟨l',c⟩|⟨_,c⟩
  ·have:=h.1;lia
  ·rw[a,c];exact e
def DV(rss:List (List Nat))(w b:Nat):Prop:=∀r∈rss,r.length=w/\∀x∈r,x<b
theorem qP{P:Addr}{te:TE}{t:TA}{σ:L2.St}{H:Hp}(h:t σ H λvs H1=>∃n:Nat,vs=[.int n]/\n<64/\TabOk P lpos qual H1/\∀H2,SameX P H1 H2->TabOk P lpos qual H2->xr te ix (fQ 0 n) σ H2 Q):qe P lpos qual ix te t σ H Q:=h
def RowsU(H:Hp)(ps:List Addr)(rss:List (List Nat)):Prop:=ps.length=rss.length/\∀(i:Nat) p r,ps[i]? = some p->rss[i]? = some r->H p=some (.lst (NV r))\/H p=some (.tup (NV r))
theorem RowsU.same{H:Hp}(h:RowsU H ps rss)(e:Same H H1):RowsU H1 ps rss:=⟨h.1,λi p z a c=>(h.2 i p z a c).elim (λh=>.inl (e _ _ h)) (λh=>.inr (e _ _ h))⟩
theorem RowsT.toU{H:Hp}(h:RowsT H ps rss):RowsU H ps rss:=⟨h.1,λi p z a c=>.inr (h.2 i p z a c)⟩
abbrev yJ (pt:Addr) (H:Hp):Prop:=TabOk pt ⟨137,40,137,72⟩ ((("told_order" : Str)++".<locals>.")++"<lambda>") H
theorem RowsU.sx{pt:Addr}{H:Hp}(h:RowsU H ps rss)(T:yJ pt H)(e:SameX pt H H1):RowsU H1 ps rss:=⟨h.1,λi p z a c=>(h.2 i p z a c).elim (λh=>.inl (e _ _ (T.ne h) h)) (λh=>.inr (e _ _ (T.neT h) h))⟩
theorem C1{p:List Nat}(h:p.Pairwise (Ah λi j=>HT.bH ((rss.map c9).getD i []) ((rss.map c9).getD j []))):p.Pairwise (Rk rss 0):=by
 refine h.imp λ{i j} hij=>?_
 have e:∀i,(rss.map c9).getD i []=c9 (rss.getD i []):=λi=>by
  rw[EH,EH,EN];cases rss[i]?<;>rfl
 obtain⟨h1,h2⟩:=hij;dsimp only at h1 h2;rw[e,e]at h1 h2;unfold Rk;rw[IE,IE];rcases xi (rss.getD i []) (rss.getD j [])with q|q|q
 ·exact .inl q
 ·exact .inr ⟨q,h2 (by rw[q];exact fT _)⟩
 ·have q':HT.bH (c9 (rss.getD j [])) (c9 (rss.getD i []))=true:=q
  rw[q']at h1;cases h1
theorem oe{p:List Nat}(h:p.Perm (EZ n)):(p.map λi=>(fQ 0 n).getD i .non)=NV p:=by
 unfold NV;apply Hk;intro i hi;have:i<n:=FE.mp (h.mem_iff.mp hi);unfold fQ;rw[EH,EN,Ga this];simp
def AD(K:EG)(pt:Addr):Sp:=λvs H Q _=>∃(a:Addr) (ps:List Addr) (rss:List (List Nat)) (w:Nat),vs=[.ref a]/\(H a=some (.lst (ps.map Oa))/\True)/\RowsU H ps rss/\(∀r∈rss,r.length=w)/\rss.length<64/\yJ pt H/\
 ∀(l:Addr) (os:List Nat) H',H l=none->SameX pt H H'->yJ pt H'->H' l=some (.lst (NV os))->os.Perm (EZ rss.length)->os.Pairwise (Rk rss 0)->Q (.ref l) H'
theorem jE (T:Tx K mg t):FnOk P t.wd K mg t.bs CX0 1 (t.f 17) (t.d 17) ["rows"] (AD K t.pt):=by
 have nd:=sc_told_order.nd;refine(T.fn 17 rfl).2.1.okC T.Ez sc_told_order (λvs H Q E h=>?_) (λA outer s H vs Q E hr h=>?_)
 ·obtain⟨a,ps,rss,w,rfl,_⟩:=h
  rfl
 ·obtain⟨a,ps,rss,w,rfl,hta,hR,hw,hn,hT,k⟩:=h
  have hpl:ps.length=rss.length:=hR.1;obtain⟨ta,_⟩:=hta
  ·refine⟨_,(ai (au (qg (N:=["place","rows"]) (x:="place") (frs:=["rows"]) (ix:=[0]) ⟨rfl,by decide +kernel,rfl,rfl,rfl,rfl,⟨⟨rfl,rfl,_,rfl,rfl⟩,EX⟩,⟨rfl,EX⟩,rfl,rfl,rfl⟩ rfl hr rfl T.fK rfl T.bQ rfl T.EA T.Ey (aj (aq (a8 (K:=K)) (by rfl) T.bA aR (aj (qv 0) aa)) aa) (λ_ _ _ _ _ _=>(aQ (gv (K:=K)) (by rfl) T.dh dD (aj (aH (aT (K:=K)) (qv 1) (qv 0)) aa))) (λ_ _ _ _=>rfl)))),?_⟩
   rw[show L2.dq ["rows"] [Oa a]=[some (Oa a)]from rfl];nofun;refine qP ?_;nofun;refine aJ (N4 ta) ?_;rw[EE,hpl];refine⟨rss.length,rfl,hn,hT,λH2 sx T2=>⟨by simp[fQ];exact hn,λi ys H'=>Same H2 H'/\∃rs:List Addr,ys=rs.map Oa/\rs.length=i/\i<=rss.length/\RowsT H' rs (rss.take i),⟨Oc _,[],rfl,rfl,EU _,rfl,λi p r h=>by simp at h⟩,?_,?_⟩⟩
   ·rintro i ys H3 x hx ⟨s3,rs,rfl,hrl,_,hRs⟩
    have hi:i<rss.length:=by have:=cE hx;simpa [fQ]using this
    have hx':x=N7 (i:Nat):=by
     unfold fQ at hx;rw[EN,Ga hi]at hx;have:=(EY hx).symm;rw[this];simp
    subst hx';have hip:i<ps.length:=by lia
    have ta3:H3 a=some (.lst (ps.map Oa)):=s3 _ _ (sx _ _ (hT.ne ta) ta);have er:=((hR.sx hT sx).same s3).2 i ps[i] rss[i] (by simp[hip]) (by simp[hi]);have et:rss.take (i+1)=rss.take i++[rss[i]]:=by rw[E3];simp[hi]
    show tCB _ _ [some (N7 (i:Nat)),some (Oa a)] H3 _
    nofun;refine bq (N4 ta3) (v:=Oa ps[i]) (bc (by rw[EN];simp[hip])) ?_;nofun;generalize ps[i]=q at er;generalize rss[i]=row at er et;rcases er with er|er
    ·refine fz (N4 er) λl2 hl2=>?_
     refine⟨(Oc H3).new hl2,s3.new hl2,rs++[l2],by rw[EK];rfl,by simp[hrl],hi,?_⟩;rw[et];exact(hRs.same ((Oc H3).new hl2)).snoc ae
    ·refine pv (N6 er) ?_
     refine⟨Oc H3,s3,rs++[q],by rw[EK];rfl,by simp[hrl],hi,?_⟩;rw[et];exact hRs.snoc er
   ·rintro ys H3 hyl ⟨s3,rs,rfl,hrl,_,hRs⟩
    have hnl:(fQ 0 rss.length).length=rss.length:=by simp[fQ]
    rw[hnl]at hrl hRs;rw[ER (EI _)]at hRs;refine⟨_,.inr ⟨rs,rss.map c9,rfl,by rw[EE];exact hrl,λi q r e1 e2=>?_,?_,rfl⟩,λd p hd hp hs=>?_⟩
    ·rw[EN]at e2
     obtain⟨r0,e3,rfl⟩:=FJ.mp e2;have:=hRs.2 i q r0 e1 e3;rw[jD]at this;exact this
    ·rcases IK w with h0|h0
     ·refine .inl λr hr=>?_
      obtain⟨r0,hr0,rfl⟩:=E1.mp hr;have:=hw r0 hr0;rw[h0]at this;rw[Jr.mp this];rfl
     ·refine .inr λr hr z=>?_
      obtain⟨r0,hr0,rfl⟩:=E1.mp hr;have:=hw r0 hr0;have h2:=congrArg GX z;unfold c9 at h2;rw[EE]at h2;simp at h2;rw[h2]at this;simp at this;lia
    ·rw[hnl]at hp
     rw[oe hp];have sx3:SameX t.pt H (upd H3 d (.lst (NV p))):=λb o hb e=>by
      have e3:=s3 _ _ (sx b o hb e);rw[ak (ao e3 hd)];exact e3
     refine k d p _ ?_ sx3 ((T2.same s3).same ((Oc H3).new hd)) ae hp (C1 hs);cases q:H d with
     | none=>rfl
     | some o=>
      by_cases hdp:d=t.pt
      ·rcases T2.same s3 with z|⟨c,z,_⟩<;>rw[<-hdp,hd]at z<;>cases z
      ·rw[s3 _ _ (sx d o hdp q)]at hd;cases hd
def qQ:Sp:=λvs H Q _=>∃(n b m:Nat),vs=[.int n,.int b,.int m]/\2<=b/\b<=64/\m<=900/\n<b ^ m/\∀p H',H p=none->Same H H'->H' p=some (.tup ((dg n b m).map N7))->Q (.ref p) H'
theorem i5 (T:Tx K mg t):FnOk P t.wd K mg t.bs CX0 1 (t.f 29) (t.d 29) ["n","base","many"] qQ:=by
 refine okT (N:=["n","base","many","lowest_first","rest","turn"]) (T.fn 29 rfl) (λH Q hr nd h=>?_)
 ·obtain⟨n,b,m,rfl,hb,hb2,hm,hn,q⟩:=h
  refine⟨_,(af (aF (i:=3) (aP aa))
   (af (aF (i:=4) (qv 0))
   (af (cf Fp rfl (bK rfl T.bQ (aj (qv 2) aa)) (aN (i:=5)) (af (bf (aO (K:=K) (qv 3) (aj (aC iK (qv 4) (qv 1)) aa)))
   (ai (mj (i:=4) nd rfl (II rfl) (qv 1) pw))))
   (af (aY (av nO (qv 4) ah (ax _)) (ai dy) aK)
   (ai (au (aQ (gv (K:=K)) (by rfl) T.dh dD (aj (zW (K:=K) (qv 3)) aa)))))))),?_⟩
  dsimp only[st0];nofun;refine⟨aI (by simp),λl hl=>?_⟩;nofun;refine⟨m,rfl,by lia,by lia,cy (λi σ H'=>Same H H'/\H' l=some (.lst ((EZ i).map λj=>N7 ((n / b ^ j % b:Nat):Int)))/\∃v,σ=[some (N7 n),some (N7 b),some (N7 m),some (Oa l),some (N7 ((n / b ^ i:Nat):Int)),v]) ⟨(Oc H).new hl,ae,none,by simp⟩ ?_ ?_⟩
  ·rintro i σ H' hi ⟨sm,hL,v,rfl⟩
   nofun;refine⟨aZ hL,?_⟩;nofun;refine aM hL (by rw[EE,Fz];exact ar ⋯) ?_;nofun;have e1:((n / b ^ i:Nat):Int) / (b:Int)=((n / b ^ (i+1):Nat):Int):=by rw[<-dvp,Gu (n / b ^ i)]
   rw[e1];refine⟨sm.own hl,?_,_,rfl⟩;rw[ae,Il,EK,Fw,Ii,Jq (n / b ^ i)]
  ·rintro σ H' ⟨sm,hL,v,rfl⟩
   have hz:n / b ^ (m:Int).toNat=0:=Nat.div_eq_of_lt hn;nofun;refine gO (by rw[hz];decide) ?_;nofun;refine⟨l,_,rfl,N4 hL,λr hr0=>?_⟩;nofun;refine fz (N4 ae) λp hp=>?_
   refine q p _ ((sm.new hr0).free hp) ((sm.new hr0).new hp) ?_;rw[ae];have:=zX n b m;rw[<-this];rfl
def C2:Sp:=λvs H Q _=>∃(m n:Nat),vs=[.int m,.int n]/\Q (.int ((Gn m n:Nat):Int)) H
theorem cn (T:Tx K mg t):FnOk P t.wd K mg t.bs CX0 1 (t.f 30) (t.d 30) ["one","other"] C2:=by
 refine okT (N:=["one","other","greater","less"]) (T.fn 30 rfl) (λH Q hr nd h=>?_)
 ·obtain⟨m,n,rfl,q⟩:=h
  refine⟨_,(af (ka rfl nd (i:=2) (j:=3) rfl rfl (by decide) rfl rfl (aj (qv 0) (aj (qv 1) aa)))
   (af (eG Fp (av nO (qv 3) ah (ax _)) (ai (ka rfl nd (i:=2) (j:=3) rfl rfl (by decide) rfl rfl (aj (qv 3) (aj (aC iK (qv 2) (qv 3)) aa)))))
   (ai (au (qv 2))))),?_⟩
  dsimp only[st0];nofun;refine⟨λc σ H'=>H'=H/\∃(g l:Nat),σ=[some (N7 m),some (N7 n),some (N7 g),some (N7 l)]/\Gn g l=Gn m n/\l=c,⟨n,rfl,m,n,rfl,rfl,rfl⟩,?_⟩;rintro c σ H' ⟨rfl,g,l,rfl,e,rfl⟩;nofun;refine br (λh1=>?_) (λh1=>?_)
  ·refine⟨_,λ_ _ z=>z,?_⟩
   nofun;have hl:0<l:=by lia
   rw[<-Jq];exact⟨g % l,Hu _ hl,rfl,l,g % l,rfl,by rw[mz hl,e],rfl⟩
  ·have hl:l=0:=by lia
   subst hl;rw[Kx]at e;nofun;rw[e];exact q
def xO:Sp:=λvs H Q _=>∃(n b:Nat),vs=[.int n,.int b]/\2<=b/\b<=64/\n<2 ^ 199/\∀m:Nat,n<b ^ m->(0<m->b ^ (m - 1)<=n)->m<201->Q (.int m) H
theorem dZ (T:Tx K mg t):FnOk P t.wd K mg t.bs CX0 1 (t.f 28) (t.d 28) ["n","base"] xO:=by
 refine okT (N:=["n","base","many","rest"]) (T.fn 28 rfl) (λH Q hr nd h=>?_)
 ·obtain⟨n,b,rfl,hb,hb2,hn,q⟩:=h
  refine⟨_,(af (aF (i:=2) ah)
   (af (aF (i:=3) (qv 0))
   (af (eG Fp (av nO (qv 3) ah (ax _)) (af (mj (i:=3) nd rfl (II rfl) (qv 1) pw)
   (ai (mj (i:=2) nd rfl (II rfl) ah uW))))
   (ai (au (qv 2)))))),?_⟩
  dsimp only[st0];nofun;refine⟨λm σ H'=>H'=H/\∃(pl:Nat),σ=[some (N7 n),some (N7 b),some (N7 pl),some (N7 ((n / b ^ pl:Nat):Int))]/\(0<pl->b ^ (pl - 1)<=n)/\2 ^ pl<=2*n+1/\n / b ^ pl=m,⟨n,rfl,0,by simp,by lia,by lia,by simp⟩,?_⟩;rintro m σ H' ⟨rfl,pl,rfl,h1,h2,rfl⟩;nofun;refine br (λh3=>?_) (λh3=>?_)
  ·refine⟨_,λ_ _ z=>z,?_⟩
   nofun;have hpos:0<n / b ^ pl:=LQ.mp h3;have e1:((n / b ^ pl:Nat):Int) / (b:Int)=((n / b ^ (pl+1):Nat):Int):=by rw[<-dvp,Gu (n / b ^ pl)]
   have e2:(pl:Int)+1=((pl+1:Nat):Int):=by lia
   rw[e1,e2];have hlt:n / b ^ (pl+1)<n / b ^ pl:=by
    rw[<-dvp];exact Nat.div_lt_self hpos ⋯
   exact⟨n / b ^ (pl+1),hlt,rfl,pl+1,rfl,λ_=>by rw[Nat.add_sub_cancel];exact(Ly.mp hpos).2,tF hb hpos,rfl⟩
  ·have hz:n / b ^ pl=0:=Nat.eq_zero_of_not_pos λh=>h3 (LQ.mpr h)
   nofun;refine q pl ?_ h1 ?_
   ·rcases Nat.div_eq_zero_iff.mp hz with h|h
    ·exact absurd h (GL (M5 ⋯))
    ·exact h
   ·have h4:2 ^ pl<2 ^ 201:=FC h2 ⋯
    exact(Nat.pow_lt_pow_iff_right (by decide)).mp h4
def Few(ns:List Int):Prop:=ns.length<=200/\∀x∈ns,-(2 ^ 190)<x/\x<2 ^ 190
def AE(K:EG):Sp:=λvs H Q _=>∃(a:Addr) (ns:List Int) (b:Nat),vs=[.ref a,.int b]/\(SqL K H a (ns.map N7)\/SqT K H a (ns.map N7))/\2<=b/\b<=64/\Few ns/\
 ∀(l:Addr) (ps:List Addr) (zs:List Nat) (m:Nat) H',H l=none->Same H H'->H' l=some (.lst (ps.map Oa))->RowsAt H' ps b m zs->Spelt ns b zs m->Q (.ref l) H'
theorem eR (T:Tx K mg t):FnOk P t.wd K mg t.bs CX0 2 (t.f 33) (t.d 33) ["numbers","base"] (AE K):=by
 refine okT (N:=["numbers","base","least","columns"]) (T.fn 33 rfl) (λH Q hr nd h=>?_)
 ·obtain⟨a,ns,b,rfl,hs,hb,hb2,⟨hlen,hbd⟩,q⟩:=h
  rcases hs with hs|hs
  ·refine⟨_,(af (aY (c5 (jl (K:=K) (qv 0))) (ai (au (aP aa))) aK)
   (af (aF (i:=2) (aq (pD (K:=K) rfl) (by rfl) T.ou qM (aj (qv 0) aa)))
   (af (aF (i:=3) (az (dZ T) hr (T.fn 28 rfl) (aj (aC fO (aq (pE (K:=K) rfl) (by rfl) T.md vm (aj (qv 0) aa)) (qv 2)) (aj (qv 1) aa))))
   (ai (au (bj (N:=["number","base","least","columns"]) (tgs:=["number"]) (frs:=["base","least","columns"]) (ix:=[1,2,3]) ⟨rfl,by decide +kernel,rfl,by decide +kernel,rfl,rfl,⟨⟨rfl,rfl,_,rfl,rfl⟩,⟨rfl,rfl,_,rfl,rfl⟩,⟨rfl,rfl,_,rfl,rfl⟩,EX⟩,⟨rfl,rfl,rfl,EX⟩,rfl⟩ rfl (bx (K:=K) (qv 0)) (λ_ _ _ _=>(aN (i:=0))) (λ_ _ _ _=>(az (i5 T) hr (T.fn 29 rfl) (aj (aC fO (qv 0) (qv 2)) (aj (qv 1) (aj (qv 3) aa))))))))))),?_⟩
   dsimp only[st0];nofun;refine⟨_,DM hs,?_⟩;by_cases h0:ns=[]
   ·subst h0
    nofun;exact⟨aI (by simp),λl hl=>q l [] [] 0 _ hl ((Oc H).new hl) (by rw[ae];rfl) ⟨rfl,λi p z e=>by simp at e⟩ (.inl ⟨rfl,rfl,rfl⟩)⟩
   ·have he:(ns.map N7).isEmpty=false:=by cases ns with|nil=>exact absurd rfl h0|cons x r=>rfl
    rw[he];refine di ?_;nofun;refine pF (.inl hs) h0 λlo lo1 lo2=>?_
    nofun;refine pG (.inl hs) h0 λhi hi1 hi2=>?_
    nofun;have hd:hi - lo=(((hi - lo).toNat:Nat):Int):=by have:=lo2 hi hi1;lia
    rw[hd];refine⟨(hi - lo).toNat,b,rfl,hb,hb2,by have:=hbd hi hi1;have:=hbd lo lo1;lia,λm m1 m2 m3=>?_⟩;nofun;refine⟨a,rfl,⟨_,hs⟩,bN (a:=a) (vs:=ns.map N7) (λi ys σ H'=>Same H H'/\(∃ps:List Addr,ys=ps.map Oa/\ps.length=i/\i<=ns.length/\RowsAt H' ps b m ((ns.map λx=>(x - lo).toNat).take i))/\∃v,σ=[v,some (N7 b),some (N7 lo),some (N7 m)]) (by rw[EE];exact ar ⋯) (λi ys σ H' h=>by obtain⟨_,⟨ps,rfl,e,_⟩,_⟩:=h;rw[EE,e]) (λi ys σ H' h=>h.1.seq hs) ⟨Oc _,⟨[],rfl,rfl,EU _,rfl,λi p z h=>by simp at h⟩,none,rfl⟩ ?_ ?_⟩
    ·rintro i ys σ H' x hx ⟨sm,⟨ps,rfl,hpl,_,hR⟩,v,rfl⟩
     obtain⟨z,rfl,hz,hzm,hi'⟩:=aX hx;nofun;have h1:=lo2 z hzm;have h2:=hi2 z hzm;have ez:z - lo=(((z - lo).toNat:Nat):Int):=by lia
     rw[ez];refine⟨(z - lo).toNat,b,m,rfl,hb,hb2,by lia,by lia,λp H2 hp sm2 t2=>?_⟩;refine Oe (by rw[EE];exact hi') ⟨sm.trans sm2,⟨ps++[p],by rw[EK];rfl,by simp[hpl],hi',?_⟩,_,rfl⟩;have et:(ns.map λx=>(x - lo).toNat).take (i+1)=(ns.map λx=>(x - lo).toNat).take i++[(z - lo).toNat]:=by rw[E3,EN,hz];rfl
     rw[et];exact(hR.same sm2).snoc t2
    ·rintro ys σ H' ⟨sm,⟨ps,rfl,hpl,_,hR⟩,v,rfl⟩ l hl
     rw[ER (by simp)]at hR;exact q l ps _ m _ (sm.free hl) (sm.new hl) ae (hR.same ((Oc _).new hl)) (.inr ⟨lo,hi,lo1,hi1,λx hx=>⟨lo2 x hx,hi2 x hx⟩,rfl,m1,m2,m3⟩)
  ·refine⟨_,(af (aY (c5 (jl (K:=K) (qv 0))) (ai (au (aP aa))) aK)
   (af (aF (i:=2) (aq (pD (K:=K) rfl) (by rfl) T.ou qM (aj (qv 0) aa)))
   (af (aF (i:=3) (az (dZ T) hr (T.fn 28 rfl) (aj (aC fO (aq (pE (K:=K) rfl) (by rfl) T.md vm (aj (qv 0) aa)) (qv 2)) (aj (qv 1) aa))))
   (ai (au (bj (N:=["number","base","least","columns"]) (tgs:=["number"]) (frs:=["base","least","columns"]) (ix:=[1,2,3]) ⟨rfl,by decide +kernel,rfl,by decide +kernel,rfl,rfl,⟨⟨rfl,rfl,_,rfl,rfl⟩,⟨rfl,rfl,_,rfl,rfl⟩,⟨rfl,rfl,_,rfl,rfl⟩,EX⟩,⟨rfl,rfl,rfl,EX⟩,rfl⟩ rfl (gR (K:=K) (qv 0)) (λ_ _ _ _=>(aN (i:=0))) (λ_ _ _ _=>(az (i5 T) hr (T.fn 29 rfl) (aj (aC fO (qv 0) (qv 2)) (aj (qv 1) (aj (qv 3) aa))))))))))),?_⟩
   dsimp only[st0];nofun;refine⟨_,Ek hs,?_⟩;by_cases h0:ns=[]
   ·subst h0
    nofun;exact⟨aI (by simp),λl hl=>q l [] [] 0 _ hl ((Oc H).new hl) (by rw[ae];rfl) ⟨rfl,λi p z e=>by simp at e⟩ (.inl ⟨rfl,rfl,rfl⟩)⟩
   ·have he:(ns.map N7).isEmpty=false:=by cases ns with|nil=>exact absurd rfl h0|cons x r=>rfl
    rw[he];refine di ?_;nofun;refine pF (.inr hs) h0 λlo lo1 lo2=>?_
    nofun;refine pG (.inr hs) h0 λhi hi1 hi2=>?_
    nofun;have hd:hi - lo=(((hi - lo).toNat:Nat):Int):=by have:=lo2 hi hi1;lia
    rw[hd];refine⟨(hi - lo).toNat,b,rfl,hb,hb2,by have:=hbd hi hi1;have:=hbd lo lo1;lia,λm m1 m2 m3=>?_⟩;nofun;refine⟨a,rfl,⟨_,hs⟩,dS (a:=a) (vs:=ns.map N7) (λi ys σ H'=>Same H H'/\(∃ps:List Addr,ys=ps.map Oa/\ps.length=i/\i<=ns.length/\RowsAt H' ps b m ((ns.map λx=>(x - lo).toNat).take i))/\∃v,σ=[v,some (N7 b),some (N7 lo),some (N7 m)]) (by rw[EE];exact ar ⋯) (λi ys σ H' h=>by obtain⟨_,⟨ps,rfl,e,_⟩,_⟩:=h;rw[EE,e]) (λi ys σ H' h=>h.1.tup hs) ⟨Oc _,⟨[],rfl,rfl,EU _,rfl,λi p z h=>by simp at h⟩,none,rfl⟩ ?_ ?_⟩
    ·rintro i ys σ H' x hx ⟨sm,⟨ps,rfl,hpl,_,hR⟩,v,rfl⟩
     obtain⟨z,rfl,hz,hzm,hi'⟩:=aX hx;nofun;have h1:=lo2 z hzm;have h2:=hi2 z hzm;have ez:z - lo=(((z - lo).toNat:Nat):Int):=by lia
     rw[ez];refine⟨(z - lo).toNat,b,m,rfl,hb,hb2,by lia,by lia,λp H2 hp sm2 t2=>?_⟩;refine Oe (by rw[EE];exact hi') ⟨sm.trans sm2,⟨ps++[p],by rw[EK];rfl,by simp[hpl],hi',?_⟩,_,rfl⟩;have et:(ns.map λx=>(x - lo).toNat).take (i+1)=(ns.map λx=>(x - lo).toNat).take i++[(z - lo).toNat]:=by rw[E3,EN,hz];rfl
     rw[et];exact(hR.same sm2).snoc t2
    ·rintro ys σ H' ⟨sm,⟨ps,rfl,hpl,_,hR⟩,v,rfl⟩ l hl
     rw[ER (by simp)]at hR;exact q l ps _ m _ (sm.free hl) (sm.new hl) ae (hR.same ((Oc _).new hl)) (.inr ⟨lo,hi,lo1,hi1,λx hx=>⟨lo2 x hx,hi2 x hx⟩,rfl,m1,m2,m3⟩)
def xP(K:EG):Sp:=λvs H Q _=>∃(a:Addr) (ps:List Addr) (tb:List (Int×Nat)),vs=[.ref a]/\(∀z∈tb,1<=z.2/\z.2<=60)/\
 ((SqL K H a (ps.map Oa)/\ke H ps tb)\/(SqT K H a (ps.map Oa)/\ke H ps tb))/\Q (.int ((eX (tb.map (·.2)):Nat):Int)) H
theorem d6 (T:Tx K mg t):FnOk P t.wd K mg t.bs CX0 2 (t.f 31) (t.d 31) ["parts"] (xP K):=by
 refine okT (N:=["parts","least","top","bottom"]) (T.fn 31 rfl) (λH Q hr nd h=>?_)
 ·obtain⟨a,ps,tb,rfl,hb,hs,q⟩:=h
  have hbs:∀b∈tb.map (·.2),1<=b/\b<=60:=λb h=>by
   obtain⟨z,hz,rfl⟩:=E1.mp h;exact hb z hz
  have hpos:∀i,0<eX ((tb.map (·.2)).take i):=λi=>my λb h=>hbs b (Ir h)
  rcases hs with⟨hs,hP⟩|⟨hs,hP⟩
  ·refine⟨_,(af (aF (i:=1) ah)
   (af (cf Fp rfl (bx (K:=K) (qv 0)) (c6 (K:=K) (n:=2) rfl (aE (aN (i:=2)) (aE (aN (i:=3)) bZ))) (ai (aF (i:=1) (aC fP (aC dz (qv 1) (az (cn T) hr (T.fn 30 rfl) (aj (qv 1) (aj (qv 3) aa)))) (qv 3)))))
   (ai (au (qv 1))))),?_⟩
   dsimp only[st0];nofun;refine⟨a,rfl,⟨_,hs⟩,eE (a:=a) (xs:=ps.map Oa) (λi σ H'=>H'=H/\∃v w,σ=[some (Oa a),some (N7 ((eX ((tb.map (·.2)).take i):Nat):Int)),v,w]) ⟨rfl,none,none,rfl⟩ (λi σ H' _ ⟨e,_⟩=>by rw[e];exact hs) ?_ ?_⟩
   ·rintro i x σ H' hx ⟨rfl,v,w,rfl⟩
    rw[EN]at hx;cases e:ps[i]? with
    | none=>rw[e]at hx;cases hx
    | some p=>
     rw[e]at hx;obtain rfl:Oa p=x:=EY hx;have hi:i<tb.length:=by rw[<-hP.1];exact(EM.mp e).1
     have hz:=hP.2 i p tb[i] e (by simp[hi]);have hb2:=hb tb[i] (Fh hi);have hget:(tb.map (·.2))[i]? = some tb[i].2:=by simp[hi]
     have hl:=kc _ i _ hget;have hp0:=hpos i;generalize eX ((tb.map (·.2)).take i)=L at hl hp0 ⊢;rw[hl];generalize tb[i].2=c at hb2 hz ⊢;refine⟨p,_,rfl,N6 hz,rfl,_,_,rfl,?_⟩;nofun;refine⟨_,_,rfl,?_⟩;nofun;refine⟨rfl,?_⟩;have hg1:0<Gn L c:=Jv _ hp0;have hg2:Gn L c<=c:=IS ⋯ (I0 L c);have hst:=mq L c;nofun;refine⟨L,c,rfl,?_⟩;generalize Gn L c=g at hg1 hg2 hst ⊢;have e:(L:Int) / (g:Int)*(c:Int)=((Hi L c:Nat):Int):=by rw[<-hst,Iq,Gu]
     nofun;rw[e];exact⟨rfl,_,_,rfl⟩
   ·rintro σ H' ⟨rfl,v,w,rfl⟩
    nofun;have el:(tb.map (·.2)).take (ps.map Oa).length=tb.map (·.2):=ER (by simp[hP.1]);rw[el];exact q
  ·refine⟨_,(af (aF (i:=1) ah)
   (af (cf Fp rfl (gR (K:=K) (qv 0)) (c6 (K:=K) (n:=2) rfl (aE (aN (i:=2)) (aE (aN (i:=3)) bZ))) (ai (aF (i:=1) (aC fP (aC dz (qv 1) (az (cn T) hr (T.fn 30 rfl) (aj (qv 1) (aj (qv 3) aa)))) (qv 3)))))
   (ai (au (qv 1))))),?_⟩
   dsimp only[st0];nofun;refine⟨a,rfl,⟨_,hs⟩,oF (a:=a) (xs:=ps.map Oa) (λi σ H'=>H'=H/\∃v w,σ=[some (Oa a),some (N7 ((eX ((tb.map (·.2)).take i):Nat):Int)),v,w]) ⟨rfl,none,none,rfl⟩ (λi σ H' _ ⟨e,_⟩=>by rw[e];exact hs) ?_ ?_⟩
   ·rintro i x σ H' hx ⟨rfl,v,w,rfl⟩
    rw[EN]at hx;cases e:ps[i]? with
    | none=>rw[e]at hx;cases hx
    | some p=>
     rw[e]at hx;obtain rfl:Oa p=x:=EY hx;have hi:i<tb.length:=by rw[<-hP.1];exact(EM.mp e).1
     have hz:=hP.2 i p tb[i] e (by simp[hi]);have hb2:=hb tb[i] (Fh hi);have hget:(tb.map (·.2))[i]? = some tb[i].2:=by simp[hi]
     have hl:=kc _ i _ hget;have hp0:=hpos i;generalize eX ((tb.map (·.2)).take i)=L at hl hp0 ⊢;rw[hl];generalize tb[i].2=c at hb2 hz ⊢;refine⟨p,_,rfl,N6 hz,rfl,_,_,rfl,?_⟩;nofun;refine⟨_,_,rfl,?_⟩;nofun;refine⟨rfl,?_⟩;have hg1:0<Gn L c:=Jv _ hp0;have hg2:Gn L c<=c:=IS ⋯ (I0 L c);have hst:=mq L c;nofun;refine⟨L,c,rfl,?_⟩;generalize Gn L c=g at hg1 hg2 hst ⊢;have e:(L:Int) / (g:Int)*(c:Int)=((Hi L c:Nat):Int):=by rw[<-hst,Iq,Gu]
     nofun;rw[e];exact⟨rfl,_,_,rfl⟩
   ·rintro σ H' ⟨rfl,v,w,rfl⟩
    nofun;have el:(tb.map (·.2)).take (ps.map Oa).length=tb.map (·.2):=ER (by simp[hP.1]);rw[el];exact q
def uc(K:EG):Sp:=λvs H Q _=>∃(a:Addr) (ps:List Addr) (tb:List (Int×Nat)),vs=[.ref a]/\tb.length<=200/\(∀z∈tb,1<=z.2/\z.2<=60)/\(∀z∈tb,-(10 ^ 18)<z.1/\z.1<10 ^ 18)/\
 ((SqL K H a (ps.map Oa)/\ke H ps tb)\/(SqT K H a (ps.map Oa)/\ke H ps tb))/\∀l,H l=none->Q (.ref l) (upd H l (.lst ((bL tb).map N7)))
theorem gm (T:Tx K mg t):FnOk P t.wd K mg t.bs CX0 3 (t.f 32) (t.d 32) ["parts"] (uc K):=by
 refine okT (N:=["parts","least"]) (T.fn 32 rfl) (λH Q hr nd h=>?_)
 ·obtain⟨a,ps,tb,rfl,hlen,hb,ht,hs,q⟩:=h
  rcases hs with⟨hs,hP⟩|⟨hs,hP⟩
  ·refine⟨_,(af (aF (i:=1) (az (d6 T) hr (T.fn 31 rfl) (aj (qv 0) aa)))
   (ai (au (bj (N:=["top","bottom","least"]) (tgs:=["top","bottom"]) (frs:=["least"]) (ix:=[1]) ⟨rfl,by decide +kernel,rfl,by decide +kernel,rfl,rfl,⟨⟨rfl,rfl,_,rfl,rfl⟩,EX⟩,⟨rfl,EX⟩,rfl⟩ rfl (bx (K:=K) (qv 0)) (λ_ _ _ _=>(c6 (K:=K) (n:=2) rfl (aE (aN (i:=0)) (aE (aN (i:=1)) bZ)))) (λ_ _ _ _=>(aC fP (qv 0) (aC dz (qv 2) (qv 1)))))))),?_⟩
   dsimp only[st0];nofun;refine⟨a,ps,tb,rfl,hb,.inl ⟨hs,hP⟩,?_⟩;nofun;refine⟨a,rfl,⟨_,hs⟩,bN (a:=a) (vs:=ps.map Oa) (λi ys σ H'=>H'=H/\i<=tb.length/\ys=((bL tb).take i).map N7/\∃v w,σ=[v,w,some (N7 ((eX (tb.map (·.2)):Nat):Int))]) (by rw[EE,hP.1];exact ar ⋯) (λi ys σ H' h=>by rw[h.2.2.1,EE,FN,bG];lia) (λi ys σ H' h=>by rw[h.1];exact hs) ⟨rfl,EU _,rfl,none,none,rfl⟩ ?_ ?_⟩
   ·rintro i ys σ H' x hx ⟨rfl,_,rfl,v,w,rfl⟩
    have hil:=(EM.mp hx).1;obtain⟨p,rfl,hp,_,hi⟩:=aX hx;have hit:i<tb.length:=by rw[<-hP.1];exact hi
    have hz:=hP.2 i p tb[i] hp (by simp[hit]);have hb1:=hb tb[i] (Fh hit);have ht1:=ht tb[i] (Fh hit);have et:(bL tb).take (i+1)=(bL tb).take i++[tb[i].1*((eX (tb.map (·.2)) / tb[i].2:Nat):Int)]:=by
     rw[E3];unfold bL;rw[EN];simp[hit]
    rw[et];generalize eX (tb.map (·.2))=L;generalize tb[i]=z at hz hb1 ht1;refine cu hz ?_;dsimp only[F7];nofun;refine Oe hil ⟨rfl,hit,?_,_,_,rfl⟩;rw[EK,Gu];rfl
   ·rintro ys σ H' ⟨rfl,_,rfl,v,w,rfl⟩ l hl
    rw[ER (by rw[bG,EE,hP.1];exact EI _)];exact q l hl
  ·refine⟨_,(af (aF (i:=1) (az (d6 T) hr (T.fn 31 rfl) (aj (qv 0) aa)))
   (ai (au (bj (N:=["top","bottom","least"]) (tgs:=["top","bottom"]) (frs:=["least"]) (ix:=[1]) ⟨rfl,by decide +kernel,rfl,by decide +kernel,rfl,rfl,⟨⟨rfl,rfl,_,rfl,rfl⟩,EX⟩,⟨rfl,EX⟩,rfl⟩ rfl (gR (K:=K) (qv 0)) (λ_ _ _ _=>(c6 (K:=K) (n:=2) rfl (aE (aN (i:=0)) (aE (aN (i:=1)) bZ)))) (λ_ _ _ _=>(aC fP (qv 0) (aC dz (qv 2) (qv 1)))))))),?_⟩
   dsimp only[st0];nofun;refine⟨a,ps,tb,rfl,hb,.inr ⟨hs,hP⟩,?_⟩;nofun;refine⟨a,rfl,⟨_,hs⟩,dS (a:=a) (vs:=ps.map Oa) (λi ys σ H'=>H'=H/\i<=tb.length/\ys=((bL tb).take i).map N7/\∃v w,σ=[v,w,some (N7 ((eX (tb.map (·.2)):Nat):Int))]) (by rw[EE,hP.1];exact ar ⋯) (λi ys σ H' h=>by rw[h.2.2.1,EE,FN,bG];lia) (λi ys σ H' h=>by rw[h.1];exact hs) ⟨rfl,EU _,rfl,none,none,rfl⟩ ?_ ?_⟩
   ·rintro i ys σ H' x hx ⟨rfl,_,rfl,v,w,rfl⟩
    have hil:=(EM.mp hx).1;obtain⟨p,rfl,hp,_,hi⟩:=aX hx;have hit:i<tb.length:=by rw[<-hP.1];exact hi
    have hz:=hP.2 i p tb[i] hp (by simp[hit]);have hb1:=hb tb[i] (Fh hit);have ht1:=ht tb[i] (Fh hit);have et:(bL tb).take (i+1)=(bL tb).take i++[tb[i].1*((eX (tb.map (·.2)) / tb[i].2:Nat):Int)]:=by
     rw[E3];unfold bL;rw[EN];simp[hit]
    rw[et];generalize eX (tb.map (·.2))=L;generalize tb[i]=z at hz hb1 ht1;refine cu hz ?_;dsimp only[F7];nofun;refine Oe hil ⟨rfl,hit,?_,_,_,rfl⟩;rw[EK,Gu];rfl
   ·rintro ys σ H' ⟨rfl,_,rfl,v,w,rfl⟩ l hl
    rw[ER (by rw[bG,EE,hP.1];exact EI _)];exact q l hl
def Ltr(n:Nat)(z:Str):Prop:=z.length<=n/\∀c∈z.cps.toList,97<=c/\c<=122
instance {n:Nat}{z:Str}:Decidable (Ltr n z):=by unfold Ltr;exact inferInstance
theorem Er:(E2 ((n:Nat):Int).toNat [N7 0]).flatten=(E2 n (0:Int)).map N7:=by
 rw[IY,GW]
 induction n with
 | zero=>rfl
 | succ n ih=>rw[FO,G1,ih,FO];rfl
noncomputable def ud(m:Nat)(z:Str):List Int:=z.cps.toList.map (λc=>((c:Nat):Int) - 96)++E2 (m - z.length) 0
def TRows(H:Hp)(ps:List Addr)(zs:List Str)(m:Nat):Prop:=ps.length=zs.length/\∀(i:Nat) (p:Addr) (z:Str),ps[i]? = some p->zs[i]? = some z->H p=some (.tup ((ud m z).map N7))
theorem TRows.same{H:Hp}{zs:List Str}(h:TRows H ps zs m)(s:Same H H'):TRows H' ps zs m:=⟨h.1,λi p z e1 e2=>s _ _ (h.2 i p z e1 e2)⟩
theorem TRows.snoc{H:Hp}{zs:List Str}(h:TRows H ps zs m)(hp:H p=some (.tup ((ud m z).map N7))):TRows H (ps++[p]) (zs++[z]) m:=by
 refine⟨by simp[h.1],λi p' z' e1 e2=>?_⟩;by_cases hi:i<ps.length
 ·rw[E6 hi]at e1
  rw[E6 (by rw[<-h.1];exact hi)]at e2;exact h.2 i p' z' e1 e2
 ·have hl:=(EM.mp e1).1
  have e:i=ps.length:=by simp at hl;lia
  subst e;rw[E8 (EI _)]at e1;rw[h.1,E8 (EI _)]at e2;simp at e1 e2;rw[<-e1,<-e2];exact hp
def AF:Sp:=λvs H Q _=>∃(z:Str) (m:Nat),vs=[.str z,.int m]/\Ltr 30 z/\z.length<=m/\m<=30/\∀p H',H p=none->Same H H'->H' p=some (.tup ((ud m z).map N7))->Q (.ref p) H'
theorem hE (T:Tx K mg t):FnOk P t.wd K mg t.bs CX0 1 (t.f 34) (t.d 34) ["text","columns"] AF:=by
 refine okT (N:=["text","columns","before_first","letters"]) (T.fn 34 rfl) (λH Q hr nd h=>?_)
 ·obtain⟨z,m,rfl,hz,hzm,hm,k⟩:=h
  have hzs:z.cps.size=z.length:=rfl;refine⟨_,(af (aF (i:=2) (aC fO (aq va (by rfl) T.rT vn (aj aw aa)) ah))
   (af (pB (i:=3) (N:=["letter","before_first"]) (tgs:=["letter"]) (frs:=["before_first"]) (ix:=[2])  nd rfl (II rfl) ⟨rfl,by decide +kernel,rfl,by decide +kernel,rfl,rfl,⟨⟨rfl,rfl,_,rfl,rfl⟩,EX⟩,⟨rfl,EX⟩,rfl⟩ rfl (vd (qv 0)) (λ_ _ _ _=>(aN (i:=0))) (λ_ _ _ _=>(aC fO (aq va (by rfl) T.rT vn (aj (qv 0) aa)) (qv 1))))
   (ai (au (aQ (gv (K:=K)) (by rfl) T.dh dD (aj (aC wX (qv 3) (aC tH (aP (aj ah aa)) (aC fO (qv 1) (aq cm (by rfl) T.bA aR (aj (qv 0) aa))))) aa)))))),?_⟩
  dsimp only[st0];nofun;refine⟨_,rfl,by decide +kernel,?_⟩;nofun;have e97:(((Fy "a").cps.getD 0 0:Nat):Int) - 1=96:=by decide +kernel
  rw[e97];refine⟨z,rfl,jo (n:=z.cps.size) (λi ys σ H'=>H'=H/\ys=((z.cps.toList.take i).map (λc=>((c:Nat):Int) - 96)).map N7/\i<=z.cps.size/\∃v,σ=[v,some (N7 96)]) (ar (by have:=hz.1;lia)) (λi ys σ H' h=>by obtain⟨_,rfl,hi,_⟩:=h;simp;lia) ⟨rfl,rfl,EU _,none,rfl⟩ (λi ys σ H' hi h=>hi) (λys σ H' h=>rfl) ?_ ?_⟩
  ·rintro i x ys σ H1 H2 hi ⟨rfl,rfl,_,v,rfl⟩ ⟨rfl,c,hc,rfl⟩
   nofun;refine⟨_,rfl,rfl,?_⟩;nofun;refine Oe hi ⟨rfl,?_,hi,_,rfl⟩;have ec:z.cps.toList[i]? = some c:=by rw[Ig];exact hc
   rw[E3,ec,EK,EK];rfl
  ·rintro ys σ H1 ⟨rfl,rfl,_,v,rfl⟩ a ha
   rw[ER (by simp)];obtain⟨H2,e9,s1,t1⟩:=nwR ha (.lst ((z.cps.toList.map (λc=>((c:Nat):Int) - 96)).map N7));rw[e9];nofun;refine⟨aI (by simp),λb hb=>?_⟩;obtain⟨H3,e9,s2,e8,tb⟩:=nwD s1 hb (.lst [N7 0]);rw[e9];have t2:=e8 _ _ t1;nofun;refine⟨z,rfl,aI ⋯,?_⟩;nofun;have em:(m:Int) - (z.length:Int)=((m - z.length:Nat):Int):=by lia
   rw[em];refine⟨b,_,_,rfl,rfl,tb,by lia,by lia,aI (by simp only[Fk,GV,IY];lia),λd hd=>?_⟩;rw[Er];obtain⟨H4,e9,s3,e8,td⟩:=nwD s2 hd (.lst ((E2 (m - z.length) (0:Int)).map N7));rw[e9];have t3:=e8 _ _ t2;refine⟨a,d,_,_,rfl,rfl,t3,td,aI (by rw[EE,EE,EE,G6,FF];lia),λe he=>?_⟩;have eq1:(z.cps.toList.map (λc=>((c:Nat):Int) - 96)).map N7++(E2 (m - z.length) (0:Int)).map N7=(ud m z).map N7:=by unfold ud;rw[<-EK]
   rw[eq1];obtain⟨H5,e9,s4,te⟩:=nwS s3 he (.lst ((ud m z).map N7));rw[e9];refine fz (N4 te) λf hf=>?_
   nofun;exact k f _ (s4.free hf) (s4.new hf) ae
def AG(zs:List Str)(m:Nat):Prop:=(∀z∈zs,z.length<=m)/\(zs=[]/\m=0\/∃z∈zs,z.length=m)
def xQ(K:EG):Sp:=λvs H Q _=>∃(a:Addr) (zs:List Str),vs=[.ref a]/\(SqL K H a (zs.map N9)\/SqT K H a (zs.map N9))/\zs.length<=200/\(∀z∈zs,Ltr 30 z)/\∀(l:Addr) (ps:List Addr) (m:Nat) H',H l=none->Same H H'->H' l=some (.lst (ps.map Oa))->TRows H' ps zs m->AG zs m->m<=30->Q (.ref l) H'
theorem kA (T:Tx K mg t):FnOk P t.wd K mg t.bs CX0 2 (t.f 35) (t.d 35) ["texts"] (xQ K):=by
 refine okT (N:=["texts","columns"]) (T.fn 35 rfl) (λH Q hr nd h=>?_)
 ·obtain⟨a,zs,rfl,hs,hlen,hL,q⟩:=h
  rcases hs with hs|hs
  ·refine⟨_,(af (aF (i:=1) (qF (K:=K) rfl rfl T.md (aj (bj (N:=["text"]) (tgs:=["text"]) (frs:=[]) (ix:=[]) ⟨rfl,by decide +kernel,rfl,by decide +kernel,rfl,rfl,EX,EX,rfl⟩ rfl (bx (K:=K) (qv 0)) (λ_ _ _ _=>(aN (i:=0))) (λ_ _ _ _=>(aq cm (by rfl) T.bA aR (aj (qv 0) aa)))) aa)))
   (ai (au (bj (N:=["text","columns"]) (tgs:=["text"]) (frs:=["columns"]) (ix:=[1]) ⟨rfl,by decide +kernel,rfl,by decide +kernel,rfl,rfl,⟨⟨rfl,rfl,_,rfl,rfl⟩,EX⟩,⟨rfl,EX⟩,rfl⟩ rfl (bx (K:=K) (qv 0)) (λ_ _ _ _=>(aN (i:=0))) (λ_ _ _ _=>(az (hE T) hr (T.fn 34 rfl) (aj (qv 0) (aj (qv 1) aa)))))))),?_⟩
   dsimp only[st0];nofun;refine⟨a,rfl,⟨_,hs⟩,bN (a:=a) (vs:=zs.map N9) (λi ys σ H'=>H'=H/\ys=((zs.take i).map λz=>((z.length:Nat):Int)).map N7/\i<=zs.length/\∃v,σ=[v]) (by rw[EE];exact ar ⋯) (λi ys σ H' h=>by obtain⟨_,rfl,hi,_⟩:=h;simp;lia) (λi ys σ H' h=>by rw[h.1];exact hs) ⟨rfl,rfl,EU _,none,rfl⟩ ?_ ?_⟩
   ·rintro i ys σ H' x hx ⟨rfl,rfl,_,v,rfl⟩
    obtain⟨z,rfl,hz,hzm,hi'⟩:=aX hx;nofun;refine⟨z,rfl,aI (by have:=(hL z hzm).1;lia),?_⟩;refine Oe (by rw[EE];exact hi') ⟨rfl,?_,hi',_,rfl⟩;rw[E3,hz,EK,EK];rfl
   ·rintro ys σ H' ⟨rfl,rfl,_,v,rfl⟩ l0 hl0
    rw[ER (by simp)];obtain⟨H1,e9,s0,t0⟩:=nwR hl0 (.lst ((zs.map λz=>((z.length:Nat):Int)).map N7));rw[e9];nofun;refine⟨l0,_,rfl,N4 t0,λmm hmm=>?_⟩;obtain⟨m,rfl,hM⟩:∃m:Nat,mm=m/\AG zs m:=by
     rcases hmm with⟨h0,rfl⟩|⟨h1,h2⟩
     ·have e0:zs=[]:=Gb.mp h0
      exact⟨0,rfl,by rw[e0];exact λz h=>(nomatch h),.inl ⟨e0,rfl⟩⟩
     ·obtain⟨z,hz,rfl⟩:=E1.mp h1
      refine⟨z.length,rfl,λy hy=>?_,.inr ⟨z,hz,rfl⟩⟩;have:=h2 _ (E1.mpr ⟨y,hy,rfl⟩);lia
    have hm:m<=30:=by
     rcases hM.2 with⟨_,rfl⟩|⟨z,hz,rfl⟩
     ·lia
     ·exact(hL z hz).1
    nofun;refine⟨a,rfl,⟨_,s0.seq hs⟩,bN (a:=a) (vs:=zs.map N9) (λi ys σ H2=>Same H' H2/\(∃ps:List Addr,ys=ps.map Oa/\ps.length=i/\i<=zs.length/\TRows H2 ps (zs.take i) m)/\∃v,σ=[v,some (N7 m)]) (by rw[EE];exact ar ⋯) (λi ys σ H2 h=>by obtain⟨_,⟨ps,rfl,e,_⟩,_⟩:=h;rw[EE,e]) (λi ys σ H2 h=>h.1.seq hs) ⟨s0,⟨[],rfl,rfl,EU _,rfl,λi p z h=>by simp at h⟩,none,rfl⟩ ?_ ?_⟩
    ·rintro i ys σ H2 x hx ⟨sm,⟨ps,rfl,hpl,_,hR⟩,v,rfl⟩
     obtain⟨z,rfl,hz,hzm,hi'⟩:=aX hx;nofun;refine⟨z,m,rfl,hL z hzm,hM.1 z hzm,hm,λp H3 hp sm2 t2=>?_⟩;refine Oe (by rw[EE];exact hi') ⟨sm.trans sm2,⟨ps++[p],by rw[EK];rfl,by simp[hpl],hi',?_⟩,_,rfl⟩;have et:zs.take (i+1)=zs.take i++[z]:=by rw[E3,hz];rfl
     rw[et];exact(hR.same sm2).snoc t2
    ·rintro ys σ H2 ⟨sm,⟨ps,rfl,hpl,_,hR⟩,v,rfl⟩ l hl
     rw[ER (by simp)]at hR;exact q l ps m _ (sm.free hl) (sm.new hl) ae (hR.same ((Oc _).new hl)) hM hm
  ·refine⟨_,(af (aF (i:=1) (qF (K:=K) rfl rfl T.md (aj (bj (N:=["text"]) (tgs:=["text"]) (frs:=[]) (ix:=[]) ⟨rfl,by decide +kernel,rfl,by decide +kernel,rfl,rfl,EX,EX,rfl⟩ rfl (gR (K:=K) (qv 0)) (λ_ _ _ _=>(aN (i:=0))) (λ_ _ _ _=>(aq cm (by rfl) T.bA aR (aj (qv 0) aa)))) aa)))
   (ai (au (bj (N:=["text","columns"]) (tgs:=["text"]) (frs:=["columns"]) (ix:=[1]) ⟨rfl,by decide +kernel,rfl,by decide +kernel,rfl,rfl,⟨⟨rfl,rfl,_,rfl,rfl⟩,EX⟩,⟨rfl,EX⟩,rfl⟩ rfl (gR (K:=K) (qv 0)) (λ_ _ _ _=>(aN (i:=0))) (λ_ _ _ _=>(az (hE T) hr (T.fn 34 rfl) (aj (qv 0) (aj (qv 1) aa)))))))),?_⟩
   dsimp only[st0];nofun;refine⟨a,rfl,⟨_,hs⟩,dS (a:=a) (vs:=zs.map N9) (λi ys σ H'=>H'=H/\ys=((zs.take i).map λz=>((z.length:Nat):Int)).map N7/\i<=zs.length/\∃v,σ=[v]) (by rw[EE];exact ar ⋯) (λi ys σ H' h=>by obtain⟨_,rfl,hi,_⟩:=h;simp;lia) (λi ys σ H' h=>by rw[h.1];exact hs) ⟨rfl,rfl,EU _,none,rfl⟩ ?_ ?_⟩
   ·rintro i ys σ H' x hx ⟨rfl,rfl,_,v,rfl⟩
    obtain⟨z,rfl,hz,hzm,hi'⟩:=aX hx;nofun;refine⟨z,rfl,aI (by have:=(hL z hzm).1;lia),?_⟩;refine Oe (by rw[EE];exact hi') ⟨rfl,?_,hi',_,rfl⟩;rw[E3,hz,EK,EK];rfl
   ·rintro ys σ H' ⟨rfl,rfl,_,v,rfl⟩ l0 hl0
    rw[ER (by simp)];obtain⟨H1,e9,s0,t0⟩:=nwR hl0 (.lst ((zs.map λz=>((z.length:Nat):Int)).map N7));rw[e9];nofun;refine⟨l0,_,rfl,N4 t0,λmm hmm=>?_⟩;obtain⟨m,rfl,hM⟩:∃m:Nat,mm=m/\AG zs m:=by
     rcases hmm with⟨h0,rfl⟩|⟨h1,h2⟩
     ·have e0:zs=[]:=Gb.mp h0
      exact⟨0,rfl,by rw[e0];exact λz h=>(nomatch h),.inl ⟨e0,rfl⟩⟩
     ·obtain⟨z,hz,rfl⟩:=E1.mp h1
      refine⟨z.length,rfl,λy hy=>?_,.inr ⟨z,hz,rfl⟩⟩;have:=h2 _ (E1.mpr ⟨y,hy,rfl⟩);lia
    have hm:m<=30:=by
     rcases hM.2 with⟨_,rfl⟩|⟨z,hz,rfl⟩
     ·lia
     ·exact(hL z hz).1
    nofun;refine⟨a,rfl,⟨_,s0.tup hs⟩,dS (a:=a) (vs:=zs.map N9) (λi ys σ H2=>Same H' H2/\(∃ps:List Addr,ys=ps.map Oa/\ps.length=i/\i<=zs.length/\TRows H2 ps (zs.take i) m)/\∃v,σ=[v,some (N7 m)]) (by rw[EE];exact ar ⋯) (λi ys σ H2 h=>by obtain⟨_,⟨ps,rfl,e,_⟩,_⟩:=h;rw[EE,e]) (λi ys σ H2 h=>h.1.tup hs) ⟨s0,⟨[],rfl,rfl,EU _,rfl,λi p z h=>by simp at h⟩,none,rfl⟩ ?_ ?_⟩
    ·rintro i ys σ H2 x hx ⟨sm,⟨ps,rfl,hpl,_,hR⟩,v,rfl⟩
     obtain⟨z,rfl,hz,hzm,hi'⟩:=aX hx;nofun;refine⟨z,m,rfl,hL z hzm,hM.1 z hzm,hm,λp H3 hp sm2 t2=>?_⟩;refine Oe (by rw[EE];exact hi') ⟨sm.trans sm2,⟨ps++[p],by rw[EK];rfl,by simp[hpl],hi',?_⟩,_,rfl⟩;have et:zs.take (i+1)=zs.take i++[z]:=by rw[E3,hz];rfl
     rw[et];exact(hR.same sm2).snoc t2
    ·rintro ys σ H2 ⟨sm,⟨ps,rfl,hpl,_,hR⟩,v,rfl⟩ l hl
     rw[ER (by simp)]at hR;exact q l ps m _ (sm.free hl) (sm.new hl) ae (hR.same ((Oc _).new hl)) hM hm
def ue(rss:List (List Int))(lt:Nat->Nat->Bool):Prop:=∀(i j:Nat) (r r':List Int),rss[i]? = some r->rss[j]? = some r'->HT.bH r r'=lt i j
noncomputable def ltN(ns:List Int)(i j:Nat):Bool:=decide (ns.getD i 0<ns.getD j 0)
noncomputable def ltP(tb:List (Int×Nat))(i j:Nat):Bool:=decide ((tb.getD i (0,1)).1*((tb.getD j (0,1)).2:Int)<(tb.getD j (0,1)).1*((tb.getD i (0,1)).2:Int))
noncomputable def ltT(zs:List Str)(i j:Nat):Bool:=decide ((zs.getD i ⟨#[]⟩).cps.toList<(zs.getD j ⟨#[]⟩).cps.toList)
theorem d7{α:Type}{xs:List α}{x d:α}(h:xs[i]? = some x):xs.getD i d=x:=by rw[EH,h];rfl
theorem map_some{α β:Type}{f:α->β}{xs:List α}{y:β}(h:(xs.map f)[i]? = some y):∃x,xs[i]? = some x/\y=f x:=by
 rw[EN]at h;cases e:xs[i]? with
 | none=>rw[e]at h;cases h
 | some x=>rw[e]at h;exact⟨x,rfl,(EY h).symm⟩
theorem fV{α:Type}{xs:List α}(h:i<xs.length):∃x,xs[i]? = some x:=⟨xs[i],by simp[h]⟩
theorem qR{ns:List Int}(h:Spelt ns b zs m)(hb:2<=b):ue (zs.map λz=>dg z b m) (ltN ns):=by
 intro i j r r' e1 e2;obtain⟨z,hz,rfl⟩:=map_some e1;obtain⟨w,hw,rfl⟩:=map_some e2;obtain⟨x,hx⟩:=fV (xs:=ns) (i:=i) (by rw[<-h.len];exact(EM.mp hz).1);obtain⟨y,hy⟩:=fV (xs:=ns) (i:=j) (by rw[<-h.len];exact(EM.mp hw).1);unfold ltN;rw[d7 hx,d7 hy];exact h.lex hb hx hy hz hw
theorem xR{tb:List (Int×Nat)}(h:Spelt (bL tb) b zs m)(hb:2<=b)(hb1:∀z∈tb,1<=z.2/\z.2<=60):ue (zs.map λz=>dg z b m) (ltP tb):=by
 intro i j r r' e1 e2;have q:=qR h hb i j r r' e1 e2;obtain⟨z0,hz0,rfl⟩:=map_some e1;obtain⟨w0,hw0,rfl⟩:=map_some e2;have l1:i<tb.length:=by rw[<-bG,<-h.len];exact(EM.mp hz0).1
 have l2:j<tb.length:=by rw[<-bG,<-h.len];exact(EM.mp hw0).1
 obtain⟨z,hz⟩:=fV l1;obtain⟨w,hw⟩:=fV l2;obtain⟨x,hx⟩:=fV (xs:=bL tb) (i:=i) (by rw[bG];exact l1);obtain⟨y,hy⟩:=fV (xs:=bL tb) (i:=j) (by rw[bG];exact l2);rw[q];unfold ltN ltP;rw[d7 hx,d7 hy,d7 hz,d7 hw];congr 1;exact propext (qH hb1 hz hw hx hy)
theorem xS{zs:List Str}(hL:∀z∈zs,Ltr 30 z)(hM:AG zs m):ue (zs.map λz=>ud m z) (ltT zs):=by
 intro i j r r' e1 e2;obtain⟨z,hz,rfl⟩:=map_some e1;obtain⟨w,hw,rfl⟩:=map_some e2;unfold ltT;rw[d7 hz,d7 hw];have hzm:=ES hz;have hwm:=ES hw;have e3:z.cps.toList.length=z.length:=by simp[JV]
 have e4:w.cps.toList.length=w.length:=by simp[JV]
 have:=vf z.cps.toList w.cps.toList m (λc hc=>((hL z hzm).2 c hc).1) (λc hc=>((hL w hwm).2 c hc).1) (by rw[e3];exact hM.1 z hzm) (by rw[e4];exact hM.1 w hwm);rw[e3,e4]at this;exact this
inductive Kd
 | nu (ns:List Int)
 | pa (tb:List (Int×Nat))
 | te (zs:List Str)
noncomputable def Kd.name:Kd->Str
 | .nu _=>"number"
 | .pa _=>"part"
 | .te _=>"text"
noncomputable def Kd.len:Kd->Nat
 | .nu ns=>ns.length
 | .pa tb=>tb.length
 | .te zs=>zs.length
noncomputable def Kd.lt:Kd->Nat->Nat->Bool
 | .nu ns=>ltN ns
 | .pa tb=>ltP tb
 | .te zs=>ltT zs
noncomputable def Kd.ok:Kd->Prop
 | .nu ns=>ns.length<=60/\∀x∈ns,-(10 ^ 18)<x/\x<10 ^ 18
 | .pa tb=>tb.length<=60/\(∀z∈tb,1<=z.2/\z.2<=60)/\∀z∈tb,-(10 ^ 18)<z.1/\z.1<10 ^ 18
 | .te zs=>zs.length<=60/\∀z∈zs,Ltr 30 z
noncomputable def KAt(H:Hp):Kd->List V->Prop
 | .nu ns,vs=>vs=ns.map N7
 | .pa tb,vs=>∃qs:List Addr,vs=qs.map Oa/\ke H qs tb
 | .te zs,vs=>vs=zs.map N9
theorem Kd.ok.le{k:Kd}(h:k.ok):k.len<=60:=by cases k<;>exact h.1
noncomputable def dgN(n b m:Nat):List Nat:=(EZ m).map λj=>n / b ^ (m - 1 - j) % b
theorem xT(n b m:Nat):(dgN n b m).length=m:=by simp[dgN]
theorem qS(n b m:Nat):c9 (dgN n b m)=dg n b m:=by
 unfold c9 dgN dg;rw[Gd];rfl
theorem AH(hb:2<=b):∀x∈dgN n b m,x<b:=λx hx=>by
 unfold dgN at hx;obtain⟨j,_,rfl⟩:=E1.mp hx;exact Hu _ ⋯
noncomputable def trN(m:Nat)(z:Str):List Nat:=z.cps.toList.map (λc=>c - 96)++E2 (m - z.length) 0
theorem vo(h:Ltr 30 z):c9 (trN m z)=ud m z:=by
 unfold c9 trN ud;rw[EK,Gd,GW];congr 1;apply Hk;intro c hc;have:=h.2 c hc;show((c - 96:Nat):Int)=(c:Int) - 96
 lia
theorem xU(h:z.length<=m):(trN m z).length=m:=by
 unfold trN;rw[Fd,EE,G6];have e:z.cps.toList.length=z.length:=by simp[JV]
 lia
theorem AI(h:Ltr 30 z):∀x∈trN m z,x<27:=λx hx=>by
 unfold trN at hx;rcases Fq.mp hx with hx|hx
 ·obtain⟨c,hc,rfl⟩:=E1.mp hx
  have:=h.2 c hc;lia
 ·have:=List.eq_of_mem_replicate hx
  lia
def C3(ns:List Int)(b:Nat)(rss:List (List Nat))(w:Nat):Prop:=∃zs,Spelt ns b zs w/\rss=zs.map λz=>dgN z b w
noncomputable def Kd.rows(b:Nat)(rss:List (List Nat))(w by':Nat):Kd->Prop
 | .nu ns=>C3 ns b rss w/\by'=b
 | .pa tb=>C3 (bL tb) b rss w/\by'=b
 | .te zs=>(AG zs w/\w<=30/\rss=zs.map (trN w))/\by'=27
theorem m4{H:Hp}(h:RowsAt H ps b m zs):RowsT H ps (zs.map λz=>dgN z b m):=by
 refine⟨by rw[EE];exact h.1,λi p r e1 e2=>?_⟩;obtain⟨z,hz,rfl⟩:=map_some e2;rw[jD,qS];exact h.2 i p z e1 hz
theorem qT{H:Hp}{zs:List Str}(h:TRows H ps zs m)(hL:∀z∈zs,Ltr 30 z):RowsT H ps (zs.map (trN m)):=by
 refine⟨by rw[EE];exact h.1,λi p r e1 e2=>?_⟩;obtain⟨z,hz,rfl⟩:=map_some e2;rw[jD,vo (hL z (ES hz))];exact h.2 i p z e1 hz
theorem kB{ns:List Int}{w:Nat}(h:C3 ns b rss w)(hb:2<=b):DV rss w b/\rss.length=ns.length/\w<=200:=by
 obtain⟨zs,hS,rfl⟩:=h;refine⟨λr hr=>?_,by rw[EE];exact hS.len,by have:=hS.few;lia⟩;obtain⟨z,_,rfl⟩:=E1.mp hr;exact⟨xT ..,AH hb⟩
theorem Kd.rows.good{k:Kd}{w by':Nat}(h:k.rows b rss w by')(hk:k.ok)(hb:2<=b)(hb2:b<=64):DV rss w by'/\rss.length=k.len/\w<=200/\by'<=64:=by
 cases k with
 | nu ns=>obtain⟨h,rfl⟩:=h;obtain⟨a,c,d⟩:=kB h hb;exact⟨a,c,d,hb2⟩
 | pa tb=>obtain⟨h,rfl⟩:=h;obtain⟨a,c,d⟩:=kB h hb;exact⟨a,c.trans (bG tb),d,hb2⟩
 | te zs=>
  obtain⟨⟨hM,hm,rfl⟩,rfl⟩:=h;refine⟨λr hr=>?_,EE ..,by lia,by decide⟩;obtain⟨z,hz,rfl⟩:=E1.mp hr;exact⟨xU (hM.1 z hz),AI (hk.2 z hz)⟩
def AJ(K:EG):Sp:=λvs H Q _=>∃(k:Kd) (us:List V) (a:Addr) (b:Nat),vs=[.str k.name,.ref a,.int b]/\(H a=some (.lst us)\/H a=some (.tup us))/\KAt H k us/\k.ok/\2<=b/\b<=64/\
 ∀(t l:Addr) (ps:List Addr) (rss:List (List Nat)) (w by':Nat) H',Same H H'->H' t=some (.tup [.int by',.ref l])->H' l=some (.lst (ps.map Oa))->RowsT H' ps rss->k.rows b rss w by'->Q (.ref t) H'
theorem kC{K:EG}{H:Hp}{us:List V}(h:H a=some (.lst us)\/H a=some (.tup us)):SqL K H a us\/SqT K H a us:=h.elim (λh=>.inl (N4 h)) λh=>.inr (N6 h)
theorem og (T:Tx K mg t):FnOk P t.wd K mg t.bs CX0 4 (t.f 36) (t.d 36) ["kind","keys","base"] (AJ K):=by
 refine okT (N:=["kind","keys","base"]) (T.fn 36 rfl) (λH Q hr nd h=>?_)
 ·obtain⟨k,us,a,b,rfl,ta,hA,hk,hb,hb2,q⟩:=h
  refine⟨_,(af (aY (av gj (qv 0) aw (ax _)) (ai (au (bP (aj (bT (v:=.int 27) rfl T.l7 ⟨_,rfl⟩) (aj (az (kA T) hr (T.fn 35 rfl) (aj (qv 1) aa)) aa))))) aK)
   (af (aY (av gj (qv 0) aw (ax _)) (ai (au (bP (aj (qv 2) (aj (az (eR T) hr (T.fn 33 rfl) (aj (az (gm T) hr (T.fn 32 rfl) (aj (qv 1) aa)) (aj (qv 2) aa))) aa))))) aK)
   (ai (au (bP (aj (qv 2) (aj (az (eR T) hr (T.fn 33 rfl) (aj (qv 1) (aj (qv 2) aa))) aa))))))),?_⟩
  dsimp only[st0];cases k with
  | nu ns=>
   obtain rfl:us=ns.map N7:=hA;nofun;refine gO (show ¬N9 (Fy "number")=N9 (Fy "text")by decide) ?_;nofun;refine gO (show ¬N9 (Fy "number")=N9 (Fy "part")by decide) ?_;nofun;refine⟨a,ns,b,rfl,kC ta,hb,hb2,⟨by have:=hk.1;lia,λx hx=>by have:=hk.2 x hx;lia⟩,λl ps zs m H' hl sm tl hR hS=>?_⟩;nofun;exact⟨aI (by simp),λt ht=>q t l ps _ m b _ (sm.new ht) ae (by rw[ak (ao tl ht)];exact tl) (m4 (hR.same ((Oc _).new ht))) ⟨⟨zs,hS,rfl⟩,rfl⟩⟩
  | pa tb=>
   obtain⟨qs,rfl,hP⟩:=hA;nofun;refine gO (show ¬N9 (Fy "part")=N9 (Fy "text")by decide) ?_;nofun;refine pq rfl ?_;nofun;refine⟨a,qs,tb,rfl,by have:=hk.1;lia,hk.2.1,hk.2.2,ta.elim (λh=>.inl ⟨N4 h,hP⟩) (λh=>.inr ⟨N6 h,hP⟩),λl0 hl0=>?_⟩;obtain⟨H0,e9,sm0,t0⟩:=nwR hl0 (.lst ((bL tb).map N7));rw[e9];nofun;refine⟨l0,bL tb,b,rfl,.inl (N4 t0),hb,hb2,⟨by rw[bG];have:=hk.1;lia,pJ hk.2.1 hk.2.2⟩,λl ps zs m H' hl sm tl hR hS=>?_⟩;nofun;exact⟨aI (by simp),λt ht=>q t l ps _ m b _ ((sm0.trans sm).new ht) ae (by rw[ak (ao tl ht)];exact tl) (m4 (hR.same ((Oc _).new ht))) ⟨⟨zs,hS,rfl⟩,rfl⟩⟩
  | te zs=>
   obtain rfl:us=zs.map N9:=hA;nofun;refine pq rfl ?_;nofun;refine⟨a,zs,rfl,kC ta,by have:=hk.1;lia,hk.2,λl ps m H' hl sm tl hR hM hm=>?_⟩;nofun;exact⟨aI (by simp),λt ht=>q t l ps _ m 27 _ (sm.new ht) ae (by rw[ak (ao tl ht)];exact tl) (qT (hR.same ((Oc _).new ht)) hk.2) ⟨⟨hM,hm,rfl⟩,rfl⟩⟩
theorem uf(h:n<=5000):n+2<=sizeLine:=by rw[Oj];lia
theorem lL{H:Hp}(h:Q (.bl (!decide (N9 x=N9 y))) H):rNe (.str x) (.str y) H Q:=⟨rfl,h⟩
noncomputable def i6(w g:Str):Bool:=(w.cps.toList.map λc=>Hs g ⟨#[c]⟩).all id
noncomputable def hd0(z:Str):Str:=⟨#[z.cps.toList.getD 0 0]⟩
noncomputable def jF (w:Str):Bool:=if(FH w "-").length<1\/18<(FH w "-").length\/i6 (FH w "-") "0123456789" = false then false else(decide (¬hd0 (FH w "-") = "0") || decide (w = "0"))
noncomputable def xV (t:Ad):List (Str×Addr):=[("number",(t.f 50)),("part",(t.f 51)),("text",(t.f 52))]
noncomputable def oh (w:Str):Bool:=w == "number" || (w == "part" || w == "text")
theorem qU(t:Ad)(w:Str):((xV t).lookup w).isSome=oh w:=by
 unfold xV oh;rw[Fg,Fg,Fg];cases(w == ("number" : Str))<;>cases(w == ("part" : Str))<;>cases(w == ("text" : Str))<;>rfl
def AK:Sp:=λvs H Q _=>∃w g:Str,vs=[.str w,.str g]/\w.length<=1000/\∀H',Same H H'->Q (.bl (i6 w g)) H'
theorem fC (T:Tx K mg t):FnOk P t.wd K mg t.bs CX0 1 (t.f 48) (t.d 48) ["word","signs"] AK:=by
 refine okT (N:=["word","signs"]) (T.fn 48 rfl) (λH Q hr nd h=>?_)
 ·obtain⟨w,g,rfl,hw,k⟩:=h
  refine⟨_,(ai (au (aq (uX (K:=K) rfl) (by rfl) T.rS vj (aj (bj (N:=["sign","signs"]) (tgs:=["sign"]) (frs:=["signs"]) (ix:=[1]) ⟨rfl,by decide +kernel,rfl,by decide +kernel,rfl,rfl,⟨⟨rfl,rfl,_,rfl,rfl⟩,EX⟩,⟨rfl,EX⟩,rfl⟩ rfl (vd (qv 0)) (λ_ _ _ _=>(aN (i:=0))) (λ_ _ _ _=>(dQ Av (qv 0) (qv 1) rfl))) aa)))),?_⟩;dsimp only[st0];nofun;refine⟨w,rfl,jo (n:=w.cps.size) (λi ys σ H'=>H=H'/\ys=((w.cps.toList.take i).map λc=>Hs g ⟨#[c]⟩).map N8/\i<=w.cps.size/\∃v,σ=[v,some (N9 g)]) (ar hw) (λi ys σ H' h=>by obtain⟨_,rfl,hi,_⟩:=h;simp;lia) ⟨rfl,rfl,EU _,none,rfl⟩ (λi ys σ H' hi h=>hi) (λys σ H' h=>rfl) ?_ ?_⟩
  ·rintro i x ys σ H1 H2 hi ⟨rfl,rfl,_,v,rfl⟩ ⟨rfl,c,hc,rfl⟩
   nofun;refine⟨_,_,rfl,rfl,?_⟩;refine Oe hi ⟨rfl,?_,hi,_,rfl⟩;have ec:w.cps.toList[i]? = some c:=by rw[Ig];exact hc
   rw[E3,ec,EK,EK];rfl
  ·rintro ys σ H1 ⟨rfl,rfl,_,v,rfl⟩ a ha
   rw[ER (by simp)];have s1:=(Oc H).new (o:=.lst ((w.cps.toList.map λc=>Hs g ⟨#[c]⟩).map N8)) ha;refine uU (N4 ae) ?_;nofun;exact k _ s1
def xW:Sp:=λvs H Q _=>∃w:Str,vs=[.str w]/\w.length<=1000/\∀H',Same H H'->Q (.bl (jF w)) H'
theorem ug{w p:Str}(h:w.length<=1000):(FH w p).length<=1000:=by
 rw[Hz];split
 ·show(Fo _).size<=_
  rw[EW,FN,Jj];lia
 ·exact h
theorem kD (T:Tx K mg t):FnOk P t.wd K mg t.bs CX0 2 (t.f 49) (t.d 49) ["word"] xW:=by
 refine okT (N:=["word","size"]) (T.fn 49 rfl) (λH Q hr nd h=>?_)
 ·obtain⟨w,rfl,hw,k⟩:=h
  have hl:=ug (p:="-") hw;unfold jF at k;refine⟨_,(af (aF (i:=1) (xF (K:=K) (qv 0) (aj aw aa)))
   (af (aY (Od (eU (av wY (aq cm (by rfl) T.bA aR (aj (qv 1) aa)) ah (ax _)) (eU (av nO (aq cm (by rfl) T.bA aR (aj (qv 1) aa)) (bT (v:=.int 18) rfl T.iR ⟨_,rfl⟩) (ax _)) (gc (c5 (cD (az (fC T) hr (T.fn 48 rfl) (aj (qv 1) (aj (bT (v:=.str "0123456789") rfl T.rQ ⟨_,rfl⟩) aa))))))))) (ai (au gP)) aK)
   (ai (au (CB (dQ yF (aH xB (qv 1) ah) aw (ax _)) (iX (dQ gj (qv 0) aw (ax _)))))))),?_⟩
  dsimp only[st0];nofun;refine⟨rfl,?_⟩;nofun;refine⟨_,_,rfl,rfl,by rw[Oj];lia,?_⟩;generalize FH w "-" = z at hl k;nofun;refine⟨z,rfl,by rw[Oj];lia,?_⟩;nofun;refine br (λg=>?_) (λg=>?_)
  ·nofun
   have k:=k H (Oc _);rw[if_pos (.inl ⋯)]at k;exact k
  nofun;refine⟨z,rfl,by rw[Oj];lia,?_⟩;nofun;refine br (λg2=>?_) (λg2=>?_)
  ·nofun
   have k:=k H (Oc _);rw[if_pos (.inr (.inl ⋯))]at k;exact k
  nofun;refine⟨z,_,rfl,hl,λH1 s1=>?_⟩;have k:=k H1 s1;cases hm:i6 z "0123456789" with
  | false=>
   nofun;rw[if_pos (.inr (.inr hm))]at k;exact k
  | true=>
   rw[if_neg (by rintro(q|q|q)<;>first|lia|(rw[hm]at q;cases q))]at k;nofun;have hz1:0<z.cps.toList.length:=by
    rw[FF];show 0<z.length;lia
   refine⟨z,0,_,rfl,rfl,by rw[Oj];lia,bc (j:=0) (show z.cps.toList[0]? = some (z.cps.toList.getD 0 0)by rw[EH,EF hz1];rfl),?_⟩;nofun;show rNe (.str (hd0 z)) _ _ _
   refine lL ?_;by_cases q:hd0 z = "0"
   ·rw[decide_eq_true (congrArg N9 q)]
    nofun;rw[decide_eq_false (λz=>z q),HU]at k;have e:decide (N9 w=N9 "0")=decide (w = "0"):=by
     by_cases z:w = "0"
     ·rw[decide_eq_true z,decide_eq_true (congrArg N9 z)]
     ·rw[decide_eq_false z,decide_eq_false λu=>z (N9.inj u)]
    rw[e];exact k
   ·rw[decide_eq_false λu=>q (N9.inj u)]
    nofun;rw[decide_eq_true q,Kq]at k;exact k
noncomputable def iN(w:Str):Option Int:=if jF w=true then intText? w else none
def lM:Sp:=λvs H Q _=>∃w:Str,vs=[.str w]/\w.length<=600/\(jF w=true->(intText? w).isSome=true)/\∀H',Same H H'->(iN w=none->Q .non H')/\∀n,iN w=some n->Q (.int n) H'
theorem cx (T:Tx K mg t):FnOk P t.wd K mg t.bs CX0 3 (t.f 50) (t.d 50) ["word"] lM:=by
 refine okT (N:=["word"]) (T.fn 50 rfl) (λH Q hr nd h=>?_)
 ·obtain⟨w,rfl,hw,hi,k⟩:=h
  refine⟨_,(af (aY (c5 (cD (az (kD T) hr (T.fn 49 rfl) (aj (qv 0) aa)))) (ai (au bJ)) aK)
   (ai (au (aQ xE (by rfl) T.kW kz (aj (qv 0) aa))))),?_⟩
  dsimp only[st0];nofun;refine⟨w,rfl,by lia,λH1 s1=>?_⟩;obtain⟨k1,k2⟩:=k H1 s1;unfold iN at k1 k2;cases hn:jF w with
  | false=>
   nofun;exact k1 (by rw[if_neg (by rw[hn];decide)])
  | true=>
   nofun;obtain⟨n,e⟩:=F2.mp (hi hn);exact⟨w,n,rfl,e,by lia,k2 n (by rw[if_pos hn];exact e)⟩
def xX:Sp:=λvs H Q _=>∃w:Str,vs=[.str w]/\Q (.bl (oh w)) H
theorem oi (T:Tx K mg t):FnOk P t.wd K mg t.bs CX0 1 (t.f 53) (t.d 53) ["word"] xX:=by
 refine okT (N:=["word"]) (T.fn 53 rfl) (λH Q hr nd h=>?_)
 ·obtain⟨w,rfl,k⟩:=h
  refine⟨_,(ai (au (dQ (Aw T.iF T.eN) (qv 0) (bT (v:=.ref t.b8) rfl T.kU rfl) rfl))),?_⟩;dsimp only[st0];nofun;refine⟨w,rfl,rfl,?_⟩;have e:=qU t w;unfold xV at e;rw[e];exact k
noncomputable def rdK(ws:List Str):Option (Str×Int):=
 if ws.length=3/\ws.getD 0 "" = "kind"/\oh (ws.getD 1 "")=true then(match iN (ws.getD 2 "")with
  | none=>none
  | some b=>if b<2\/64<b then none else some (ws.getD 1 "",b))
 else none
def okK (ws:List Str):Prop:=ws.length<=200/\(∀w∈ws,w.length<=600)/\(ws.length=3->jF (ws.getD 2 "")=true->(intText? (ws.getD 2 "")).isSome=true)
def C4:Sp:=λvs H Q _=>∃(a:Addr) (ws:List Str),vs=[.ref a]/\H a=some (.lst (ws.map N9))/\okK ws/\(rdK ws=none->∀H',Same H H'->Q .non H')/\∀(x:Addr) (k:Str) (b:Int) H',Same H H'->rdK ws=some (k,b)->H' x=some (.tup [.str k,.int b])->Q (.ref x) H'
theorem i7 {ws:List Str}(h:i<ws.length):(ws.map N9)[i]? = some (N9 (ws.getD i "")):=by
 rw[EN,EH,EF h];rfl
theorem m5 {ws:List Str}(h:i<ws.length):ws.getD i ""∈ws:=by
 rw[EH,EF h];exact Fh h
theorem kE (T:Tx K mg t):FnOk P t.wd K mg t.bs CX0 4 (t.f 74) (t.d 74) ["words"] C4:=by
 refine okT (N:=["words","base"]) (T.fn 74 rfl) (λH Q hr nd h=>?_)
 ·obtain⟨a,ws,rfl,ta,⟨hl,hw,hi⟩,k0,k⟩:=h
  refine⟨_,(af (aY (Od (eU (av yF (aq (a8 (K:=K)) (by rfl) T.bA aR (aj (qv 0) aa)) ah (ax _)) (eU (av yF (aH (aT (K:=K)) (qv 0) ah) aw (ax _)) (gc (c5 (cD (az (oi T) hr (T.fn 53 rfl) (aj (aH (aT (K:=K)) (qv 0) ah) aa)))))))) (ai (au bJ)) aK)
   (af (aF (i:=1) (az (cx T) hr (T.fn 50 rfl) (aj (aH (aT (K:=K)) (qv 0) ah) aa)))
   (af (aY (Od (eU (av lp (qv 1) bJ (ax _)) (eU (av wY (qv 1) (bT (v:=.int 2) rfl T.kT ⟨_,rfl⟩) (ax _)) (gc (av nO (qv 1) (bT (v:=.int 64) rfl T.l6 ⟨_,rfl⟩) (ax _)))))) (ai (au bJ)) aK)
   (ai (au (bP (aj (aH (aT (K:=K)) (qv 0) ah) (aj (qv 1) aa)))))))),?_⟩
  dsimp only[st0];nofun;refine aJ (N4 ta) ?_;rw[EE];nofun;by_cases h3:ws.length=3
  rotate_left
  ·rw[decide_eq_false (show ¬N7 ((ws.length:Nat):Int)=N7 3 from λz=>h3 (by have:=N7.inj z;lia))]
   nofun;refine k0 ?_ H (Oc _);unfold rdK;rw[if_neg λz=>h3 z.1]
  rw[decide_eq_true (show N7 ((ws.length:Nat):Int)=N7 3 by rw[h3];rfl)];nofun;refine bq (N4 ta) (v:=N9 (ws.getD 0 "")) (bc (j:=0) (i7 ⋯)) ?_;nofun;refine lL ?_;by_cases hk:ws.getD 0 "" = "kind"
  rotate_left
  ·rw[decide_eq_false λu=>hk (N9.inj u)]
   nofun;refine k0 ?_ H (Oc _);unfold rdK;rw[if_neg λz=>hk z.2.1]
  rw[decide_eq_true (congrArg N9 hk)];nofun;refine bq (N4 ta) (v:=N9 (ws.getD 1 "")) (bc (j:=1) (i7 ⋯)) ?_;nofun;refine⟨_,rfl,?_⟩;cases hq:oh (ws.getD 1 "")with
  | false=>
   nofun;refine k0 ?_ H (Oc _);unfold rdK;rw[if_neg λz=>by rw[hq]at z;cases z.2.2]
  | true=>
   nofun;refine bq (N4 ta) (v:=N9 (ws.getD 2 "")) (bc (j:=2) (i7 ⋯)) ?_;nofun;refine⟨_,rfl,hw _ (m5 ⋯),hi h3,λH1 s1=>⟨λe=>?_,λn e=>?_⟩⟩
   ·nofun
    refine k0 ?_ H1 s1;unfold rdK;rw[if_pos ⟨h3,hk,hq⟩,e]
   ·nofun
    rw[decide_eq_false (show ¬N7 n=Ob from λz=>nomatch z)];nofun;refine br (λg=>?_) (λg=>?_)
    ·nofun
     refine k0 ?_ H1 s1;unfold rdK;rw[if_pos ⟨h3,hk,hq⟩,e];exact if_pos (.inl g)
    nofun;refine br (λg2=>?_) (λg2=>?_)
    ·nofun
     refine k0 ?_ H1 s1;unfold rdK;rw[if_pos ⟨h3,hk,hq⟩,e];exact if_pos (.inr g2)
    nofun;refine bq (N4 (s1 _ _ ta)) (v:=N9 (ws.getD 1 "")) (bc (j:=1) (i7 ⋯)) ?_;nofun;refine⟨aI (by simp),λx hx=>?_⟩;refine k x _ _ _ (s1.new hx) ?_ ae;unfold rdK;rw[if_pos ⟨h3,hk,hq⟩,e];exact if_neg ⋯
theorem bV(h:x.cps.toList=y.cps.toList):x=y:=NZ (Array.toList_inj.mp h)
noncomputable def dgs(m:Nat):List Nat:=(Iu 10 m).map LR
theorem fW(m:Nat):Jw (dgs m):=λc hc=>by
 obtain⟨ch,hch,e⟩:=E1.mp hc;have r:=MP (Nat.isDigit_of_mem_toDigits (by decide) (by decide) hch);rw[<-e];exact r
theorem qV(m:Nat):dgs m≠[]:=by
 unfold dgs;intro e;exact Nat.toDigits_ne_nil (Gb.mp e)
theorem qW(h:m<10 ^ 18):(dgs m).length<=18:=by
 unfold dgs;rw[EE];exact toDigits_len_pow (by decide) (by decide) h
theorem AL:∀d:Nat,d<10->0<d->49<=(Nat.digitChar d).toNat:=by decide
theorem AM(m:Nat)(h:0<m):∃c r,dgs m=c::r/\49<=c:=by
 induction m using Nat.strongRecOn with
 | _ m ih=>
  by_cases q:m<10
  ·exact⟨_,[],by unfold dgs;rw[Nat.toDigits_of_lt_base q];rfl,AL m q h⟩
  ·have hm:m % 10<10:=Hu m (by decide)
   have t:Iu 10 (m / 10)++Iu 10 (m % 10)=Iu 10 (10*(m / 10)+m % 10):=Nat.toDigits_append_toDigits (by decide) ⋯ hm;rw[LL]at t;obtain⟨c,r,e,hc⟩:=ih (m / 10) ⋯ ⋯;refine⟨c,r++dgs (m % 10),?_,hc⟩;unfold dgs at e ⊢;rw[<-t,EK,e];rfl
theorem d8(n:Int):(toString n:Str).cps.toList=if n<0 then 45::dgs n.natAbs else dgs n.natAbs:=by
 cases n with
 | ofNat m=>exact(Nc m).trans (by rw[if_neg (by simp)];rfl)
 | negSucc m=>
  rw[if_pos (Int.negSucc_lt_zero m)];refine(signs_ofString _).trans ?_;show(("-"++Nat.repr (m+1)).toList).map LR=_
  rw[String.toList_append,Nat.toList_repr];rfl
theorem cP{n:Int}(h:n.natAbs<10 ^ 18):(toString n:Str).length<=19:=by
 have:=qW h;show(toString n:Str).cps.size<=19
 rw[<-FF,d8];split
 ·rw[Fk];lia
 ·lia
theorem fD{n:Int}(h:n.natAbs<10 ^ 18):intText? (toString n:Str)=some n:=by
 have hl:=cP h;have hs:=d8 n;by_cases q:n<0
 ·rw[if_pos q]at hs
  rw[PySem.intText_neg hs (fW _) (qV _) ⋯];unfold dgs;rw[JX];congr 1;lia
 ·rw[if_neg q]at hs
  rw[PySem.intText_digits (by rw[hs];exact fW _) (by rw[hs];exact qV _) ⋯,hs];unfold dgs;rw[JX];congr 1;lia
theorem lN:("-" : Str)=⟨#[45]⟩:=by decide +kernel
theorem qX {cs:List Nat}(h:x.cps.toList=45::cs):(FH x "-").cps.toList=cs:=by
 have hz:x.length=cs.length+1:=by show x.cps.size=_;rw[<-FF,h];simp
 rw[Hz,if_pos ?_]
 ·rw[h,lN]
  show(Mc 1 (45::cs)).take (x.length - 1)=cs
  rw[hz];simp
 ·rw[Ll,h,lN]
  have:(0+(⟨#[45]⟩:Str).length<=x.length):=by rw[hz];show 0+1<=_;lia
  rw[decide_eq_true this];rfl
theorem qY (h:∀cs,x.cps.toList≠45::cs):FH x "-" = x:=by
 rw[Hz,if_neg ?_];rw[Ll,lN];intro q;have q2:=(FW _ _▸q).2;have q3:x.cps.toList.take 1=[45]:=eq_of_beq q2;cases e:x.cps.toList with
 | nil=>rw[e]at q3;cases q3
 | cons c cs=>
  rw[e]at q3;have:c=45:=by simpa using q3
  subst this;exact h cs e
theorem uh (n:Int):(FH (toString n:Str) "-").cps.toList=dgs n.natAbs:=by
 have hs:=d8 n;by_cases q:n<0
 ·rw[if_pos q]at hs;exact qX hs
 ·rw[if_neg q]at hs
  rw[qY λcs e=>?_,hs];rw[hs]at e;have:=fW n.natAbs 45 (by rw[e];exact Fn ..);lia
theorem AN:∀c,48<=c->c<=57->Hs ("0123456789" : Str) ⟨#[c]⟩=true:=λc h1 h2=>by
 have:∀k,k<10->Hs ("0123456789" : Str) ⟨#[48+k]⟩=true:=by decide +kernel
 have:=this (c - 48) ⋯
 rwa [show 48+(c - 48)=c by lia]at this
theorem qZ {w:Str}(h:Jw w.cps.toList):i6 w "0123456789" = true:=by
 unfold i6;rw[F4];intro x hx;obtain⟨c,hc,rfl⟩:=E1.mp hx;exact AN c (h c hc).1 (h c hc).2
theorem AO{n:Int}(h:n.natAbs<10 ^ 18):jF (toString n:Str)=true:=by
 have hr:=uh n;have hl:=qW h;have hp:=FR.mpr (qV n.natAbs);have hz:(FH (toString n:Str) "-").length=(dgs n.natAbs).length:=by
  show(FH (toString n:Str) "-").cps.size=_
  rw[<-FF,hr]
 unfold jF;rw[qZ (by rw[hr];exact fW _),hz,if_neg (λq=>by rcases q with q|q|q<;>first|lia|cases q)];rcases IK n.natAbs with z|z
 ·obtain rfl:n=0:=by lia
  decide +kernel
 ·obtain⟨c,r,e,hc⟩:=AM _ z
  have:¬hd0 (FH (toString n:Str) "-") = "0":=by
   unfold hd0;rw[hr,e,show("0" : Str)=⟨#[48]⟩by decide +kernel];intro q;have:=congrArg (λs:Str=>s.cps.toList) q;have:c=48:=by simpa using this
   lia
  rw[decide_eq_true this];rfl
theorem cz{n:Int}(h:n.natAbs<10 ^ 18):iN (toString n:Str)=some n:=by
 unfold iN;rw[if_pos (AO h),fD h]
theorem xY{a b:Str}(h:x.cps.toList=a.cps.toList++c::b.cps.toList)(hf:c∉a.cps.toList):FY x ⟨#[c]⟩=(a,⟨#[c]⟩,b):=by
 have at':∀i,StrLaws.At x ⟨#[c]⟩ x.length i↔x.cps.toList[i]? = some c:=λi=>K0 x c i
 have hz:x.length=a.cps.toList.length+1+b.cps.toList.length:=by show x.cps.size=_;rw[<-FF,h];simp;lia
 unfold FY;rcases Lm x ⟨#[c]⟩ 1 (EI _)with⟨_,hn⟩|⟨i,r,e,hi,hn⟩
 ·exact absurd ((at' a.cps.toList.length).mpr (by rw[h];simp)) (hn _)
 ·have hi:=(at' i).mp hi
  have ei:i=a.cps.toList.length:=by
   rcases G3 i a.cps.toList.length with q|q|q
   ·rw[h,E6 q]at hi
    exact absurd (ES hi) hf
   ·exact q
   ·exact absurd ((at' a.cps.toList.length).mpr (by rw[h];simp)) (hn _ q)
  rw[e];refine NS (bV ?_) (NS rfl (bV ?_))
  ·show(Kz x 0 i).cps.toList=_
   rw[JR,h,ei];simp
  ·show(Kz x (i+1) x.length).cps.toList=_
   rw[JR,h,hz,ei];have:Mc (a.cps.toList.length+1) (a.cps.toList++c::b.cps.toList)=b.cps.toList:=by
    rw[List.drop_append];simp
   rw[this];exact ER ⋯
theorem q9(hf:c∉x.cps.toList):FY x ⟨#[c]⟩=(x,GA,GA):=by
 unfold FY;rcases Lm x ⟨#[c]⟩ 1 (EI _)with⟨e,_⟩|⟨i,r,_,hi,_⟩
 ·rw[e]
 ·exact absurd (ES ((K0 x c i).mp hi)) hf
theorem m6:("/" : Str)=⟨#[47]⟩:=by decide +kernel
theorem m7(n:Int)(h1:c≠45)(h2:c<48\/57<c):c∉(toString n:Str).cps.toList:=λhc=>by
 rw[d8]at hc;have key:c∉dgs n.natAbs:=λz=>by have:=fW _ c z;lia
 split at hc
 ·rcases EO.mp hc with z|z
  ·exact h1 z
  ·exact key z
 ·exact key hc
theorem ui (n:Int):FY (toString n:Str) "/" = ((toString n:Str),GA,GA):=by
 rw[m6];exact q9 (m7 n (by decide) (by decide))
theorem uj (n m:Int):FY ((toString n:Str)++"/"++(toString m:Str)) "/" = ((toString n:Str),("/" : Str),(toString m:Str)):=by
 rw[m6];refine xY ?_ (m7 n (by decide) (by decide));show(((toString n:Str).cps++#[47])++(toString m:Str).cps).toList=_
 simp
noncomputable def fX (n b:Int):Str:=if b=1 then(toString n:Str)else(toString n:Str)++"/"++(toString b:Str)
def hU(n b:Int):Prop:=n.natAbs<10 ^ 18/\1<=b/\b<=60/\Gn n.natAbs b.natAbs=1
theorem kF{n b:Int}(h:hU n b):(fX n b).length<=60:=by
 have h1:=cP h.1;have h2:(toString b:Str).length<=19:=cP (by have:=h.2.1;have:=h.2.2.1;lia);unfold fX;split
 ·lia
 ·rw[strLen_append,strLen_append];have:(("/" : Str)).length=1:=by decide +kernel
  lia
def jG:Sp:=λvs H Q _=>∃n b:Int,vs=[.str (fX n b)]/\hU n b/\∀x H',Same H H'->H' x=some (.tup [.int n,.int b])->Q (.ref x) H'
theorem kG (T:Tx K mg t):FnOk P t.wd K mg t.bs CX0 4 (t.f 51) (t.d 51) ["word"] jG:=by
 refine okT (N:=["word","top_word","slash","bottom_word","top","bottom"]) (T.fn 51 rfl) (λH Q hr nd h=>?_)
 ·obtain⟨n,b,rfl,ho,k⟩:=h
  have hl:=kF ho;obtain⟨hn,h1,h2,hg⟩:=ho;refine⟨_,(af (ll (xH (K:=K) (qv 0) (aj aw aa)) (c6 (K:=K) (n:=3) rfl (aE (aN (i:=1)) (aE (aN (i:=2)) (aE (aN (i:=3)) bZ)))))
   (af (aF (i:=4) (az (cx T) hr (T.fn 50 rfl) (aj (qv 1) aa)))
   (af (aY (av lp (qv 4) bJ (ax _)) (ai (au bJ)) aK)
   (af (aY (av gj (qv 2) aw (ax _)) (ai (au (bP (aj (qv 4) (aj ah aa))))) aK)
   (af (aF (i:=5) (az (cx T) hr (T.fn 50 rfl) (aj (qv 3) aa)))
   (af (aY (Od (eU (av lp (qv 5) bJ (ax _)) (eU (av wY (qv 5) ah (ax _)) (eU (av nO (qv 5) (bT (v:=.int 60) rfl T.jQ ⟨_,rfl⟩) (ax _)) (gc (av nO (az (cn T) hr (T.fn 30 rfl) (aj (aq mn (by rfl) T.l9 mZ (aj (qv 4) aa)) (aj (qv 5) aa))) ah (ax _))))))) (ai (au bJ)) aK)
   (ai (au (bP (aj (qv 4) (aj (qv 5) aa))))))))))),?_⟩
  dsimp only[st0];nofun;refine⟨rfl,?_⟩;nofun;refine⟨_,_,rfl,rfl,by decide +kernel,by rw[Oj];lia,λp hp=>?_⟩;have s0:=λo=>(Oc H).new (o:=o) hp
  by_cases hb:b=1
  ·rw[show FY (fX n b) "/" = ((toString n:Str),GA,GA)by unfold fX;rw[if_pos hb];exact ui n]
   dsimp only;refine mE ae ?_;nofun;refine⟨_,rfl,by have:=cP hn;lia,λ_=>by rw[fD hn];rfl,λH1 s1=>⟨λe=>absurd e (by rw[cz hn];exact λz=>nomatch z),λn1 e=>?_⟩⟩;obtain rfl:n=n1:=by rw[cz hn]at e;exact EY e
   nofun;rw[decide_eq_false (show ¬N7 n=Ob from λz=>nomatch z)];nofun;rw[decide_eq_true (show N9 GA=N9 "" from rfl)];nofun;subst hb;exact⟨by show 2<=sizeLine;decide,λa ha=>k a _ (((s0 _).trans s1).new ha) ae⟩
  ·rw[show FY (fX n b) "/" = ((toString n:Str),("/" : Str),(toString b:Str))by unfold fX;rw[if_neg hb];exact uj n b]
   dsimp only;refine mE ae ?_;nofun;refine⟨_,rfl,by have:=cP hn;lia,λ_=>by rw[fD hn];rfl,λH1 s1=>⟨λe=>absurd e (by rw[cz hn];exact λz=>nomatch z),λn1 e=>?_⟩⟩;obtain rfl:n=n1:=by rw[cz hn]at e;exact EY e
   nofun;rw[decide_eq_false (show ¬N7 n=Ob from λz=>nomatch z)];nofun;rw[decide_eq_false (show ¬N9 "/" = N9 "" from λz=>absurd (N9.inj z) (by decide +kernel))];nofun;have hbn:b.natAbs<10 ^ 18:=by lia
   refine⟨_,rfl,by have:=cP hbn;lia,λ_=>by rw[fD hbn];rfl,λH2 s2=>⟨λe=>absurd e (by rw[cz hbn];exact λz=>nomatch z),λn2 e2=>?_⟩⟩;obtain rfl:b=n2:=by rw[cz hbn]at e2;exact EY e2
   nofun;rw[decide_eq_false (show ¬N7 b=Ob from λz=>nomatch z)];nofun;refine br (λg=>absurd g ⋯) (λ_=>?_);nofun;refine br (λg=>absurd g ⋯) (λ_=>?_);nofun;have e1:(if n<0 then -n else n)=((n.natAbs:Nat):Int):=by split<;>lia
   have e2:b=((b.natAbs:Nat):Int):=by lia
   refine⟨n.natAbs,b.natAbs,by rw[e1];exact congrArg (λz=>[N7 _,N7 z]) e2,?_⟩;rw[hg];nofun;refine br (λg=>absurd g ⋯) (λ_=>?_);nofun;exact⟨by show 2<=sizeLine;decide,λa ha=>k a _ ((((s0 _).trans s1).trans s2).new ha) ae⟩
def i8 (w:Str):Prop:=w.length<=20/\i6 w "abcdefghijklmnopqrstuvwxyz" = true/\Ltr 30 w
noncomputable def vp (w:Str):Str:="'"++w
theorem lO(w:Str):(vp w).length=w.length+1:=by
 unfold vp;rw[strLen_append,show(("'" : Str)).length=1 by decide +kernel];lia
theorem uk(w:Str):JF (vp w) (some 1) none=w:=by
 have hz:=lO w;rw[slice_from_eq (b:=((vp w).length:Int)) ⋯ ⋯ rfl,hz];refine bV ?_;show NL (((w.length+1:Nat):Int) - 1).toNat (Mc 1 ((("'" : Str).cps++w.cps).toList))=_
 rw[show(("'" : Str))=⟨#[39]⟩by decide +kernel,Gs];show NL (((w.length+1:Nat):Int) - 1).toNat w.cps.toList=_
 refine ER ?_;rw[FF];show w.length<=_
 lia
def jH:Sp:=λvs H Q _=>∃w:Str,vs=[.str (vp w)]/\i8 w/\∀H',Same H H'->Q (.str w) H'
theorem kH (T:Tx K mg t):FnOk P t.wd K mg t.bs CX0 2 (t.f 52) (t.d 52) ["word"] jH:=by
 refine okT (N:=["word","letters"]) (T.fn 52 rfl) (λH Q hr nd h=>?_)
 ·obtain⟨w,rfl,⟨hl,hm,_⟩,k⟩:=h
  refine⟨_,(af (aF (i:=1) (dw Ao (qv 0) (dr ah) gQ))
   (af (aY (Od (eU (c5 (cD (Az (K:=K) (qv 0) (aj aw aa)))) (eU (av nO (aq cm (by rfl) T.bA aR (aj (qv 1) aa)) (bT (v:=.int 20) rfl T.iS ⟨_,rfl⟩) (ax _)) (gc (c5 (cD (az (fC T) hr (T.fn 48 rfl) (aj (qv 1) (aj (bT (v:=.str "abcdefghijklmnopqrstuvwxyz") rfl T.rR ⟨_,rfl⟩) aa))))))))) (ai (au bJ)) aK)
   (ai (au (qv 1))))),?_⟩
  dsimp only[st0];nofun;have hz:=lO w;refine⟨1,rfl,pI ?_⟩;refine⟨_,rfl,by rw[Oj];lia,?_⟩;rw[uk];nofun;refine⟨rfl,?_⟩;nofun;refine⟨_,_,rfl,rfl,?_⟩;rw[show L0 (vp w) "'" = true from Nd _ _];nofun;refine⟨w,rfl,by rw[Oj];lia,?_⟩;nofun;refine br (λg=>absurd g ⋯) (λ_=>?_);nofun;refine⟨w,_,rfl,by lia,λH1 s1=>?_⟩;rw[hm];nofun;exact k H1 s1
inductive Ky where
 | num (n:Int)
 | par (n b:Int)
 | txt (w:Str)
noncomputable def Ky.word:Ky->Str
 | .num n=>(toString n:Str)
 | .par n b=>fX n b
 | .txt w=>vp w
noncomputable def Ky.ok(kd:Str):Ky->Prop
 | .num n=>kd = "number"/\n.natAbs<10 ^ 18
 | .par n b=>kd = "part"/\hU n b
 | .txt w=>kd = "text"/\i8 w
noncomputable def Ky.at(H:Hp)(v:V):Ky->Prop
 | .num n=>v=.int n
 | .par n b=>∃q,v=.ref q/\H q=some (.tup [.int n,.int b])
 | .txt w=>v=.str w
theorem Ky.keep{H:Hp}{k:Ky}(h:k.at H v)(s:∀b xs,H b=some (.tup xs)->H' b=some (.tup xs)):k.at H' v:=by
 cases k with
 | num n=>exact h
 | par n b=>obtain⟨q,e,hq⟩:=h;exact⟨q,e,s _ _ hq⟩
 | txt w=>exact h
theorem Ky.some{H:Hp}{k:Ky}(h:k.at H v):¬v=Ob:=by
 cases k with
 | num n=>obtain rfl:v=.int n:=h;exact λz=>nomatch z
 | par n b=>obtain⟨q,rfl,_⟩:=h;exact λz=>nomatch z
 | txt w=>obtain rfl:v=.str w:=h;exact λz=>nomatch z
def KsW(H:Hp)(vs:List V)(ks:List Ky):Prop:=vs.length=ks.length/\∀(i:Nat) v k,vs[i]? = some v->ks[i]? = some k->k.at H v
theorem KsW.snoc{H:Hp}{vs:List V}{ks:List Ky}{k:Ky}(h:KsW H vs ks)(e1:k.at H v):KsW H (vs++[v]) (ks++[k]):=by
 refine⟨by simp[h.1],λi v' k' a b=>?_⟩;by_cases hk:i<vs.length
 ·rw[E6 hk]at a
  rw[E6 (by rw[<-h.1];exact hk)]at b;exact h.2 i v' k' a b
 ·have e:i=vs.length:=by
   have:=(EM.mp a).1;simp at this;lia
  subst e;rw[E8 (EI _),G7]at a;rw[E8 (by rw[h.1];exact EI _),show vs.length - ks.length=0 by have:=h.1;lia]at b;cases a;cases b;exact e1
def AQ(K:EG)(t:Ad):V->Sp->Prop:=λv sp=>(v=.ref (t.f 50)/\sp=lM)\/(v=.ref (t.f 51)/\sp=jG)\/(v=.ref (t.f 52)/\sp=jH)
theorem um (K:EG) (t:Ad) (h:kd = "number"\/kd = "part"\/kd = "text"):∃f sp,(xV t).lookup kd=some f/\AQ K t (.ref f) sp/\∀(k:Ky) (H:Hp) (Q:VK),k.ok kd->(∀v H',Same H H'->k.at H' v->Q v H')->sp [.str k.word] H Q E0:=by
 rcases h with rfl|rfl|rfl
 ·refine⟨(t.f 50),lM,by unfold xV;rw[Fg,beq_self_eq_true],.inl ⟨rfl,rfl⟩,λk H Q hk q=>?_⟩
  cases k with
  | num n=>
   have hn:=hk.2;refine⟨_,rfl,by have:=cP hn;show(toString n:Str).length<=600;lia,λ_=>by show(intText? (toString n:Str)).isSome=true;rw[fD hn];rfl,λH1 s1=>⟨λe=>absurd e (by show ¬iN (toString n:Str)=none;rw[cz hn];exact λz=>nomatch z),λn1 e=>?_⟩⟩;have e:iN (toString n:Str)=M0 n1:=e;rw[cz hn]at e;cases e;exact q _ _ s1 rfl
  | par n b=>exact absurd hk.1 (by decide +kernel)
  | txt w=>exact absurd hk.1 (by decide +kernel)
 ·refine⟨(t.f 51),jG,by unfold xV;rw[Fg,show(("part" : Str) == "number")=false by decide +kernel,Fg,beq_self_eq_true],.inr (.inl ⟨rfl,rfl⟩),λk H Q hk q=>?_⟩
  cases k with
  | num n=>exact absurd hk.1 (by decide +kernel)
  | par n b=>exact⟨n,b,rfl,hk.2,λx H1 s1 e=>q _ _ s1 ⟨x,rfl,e⟩⟩
  | txt w=>exact absurd hk.1 (by decide +kernel)
 ·refine⟨(t.f 52),jH,by unfold xV;rw[Fg,show(("text" : Str) == "number")=false by decide +kernel,Fg,show(("text" : Str) == "part")=false by decide +kernel,Fg,beq_self_eq_true],.inr (.inr ⟨rfl,rfl⟩),λk H Q hk q=>?_⟩
  cases k with
  | num n=>exact absurd hk.1 (by decide +kernel)
  | par n b=>exact absurd hk.1 (by decide +kernel)
  | txt w=>exact⟨w,rfl,hk.2,λH1 s1=>q _ _ s1 rfl⟩
def AR:Sp:=λvs H Q _=>∃(kd:Str) (a:Addr) (ks:List Ky),vs=[.str kd,.ref a]/\H a=some (.lst (ks.map λk=>N9 k.word))/\(kd = "number"\/kd = "part"\/kd = "text")/\(∀k∈ks,k.ok kd)/\ks.length<=200/\
 ∀(l:Addr) (us:List V) H',Same H H'->H l=none->H' l=some (.lst us)->KsW H' us ks->Q (.ref l) H'
theorem kI (T:Tx K mg t):FnOk P t.wd K mg t.bs CX0 5 (t.f 54) (t.d 54) ["kind","words"] AR:=by
 refine okT (N:=["kind","words","read","keys","word","key"]) (T.fn 54 rfl) (λH Q hr nd h=>?_)
 ·obtain⟨kd,a,ks,rfl,ta,hkd,hok,hn,k⟩:=h
  obtain⟨f,sp,hf,hR,hsp⟩:=um K t hkd;refine⟨_,(af (aF (i:=2) (aH (Ar T.iF) (bT (v:=.ref t.b8) rfl T.kU rfl) (qv 0)))
   (af (aF (i:=3) (aP aa))
   (af (cf Fp rfl (bx (K:=K) (qv 1)) (aN (i:=4)) (af (aF (i:=5) (mV (R:=AQ K t) (qv 2) (λv sp h=>by
     rcases h with⟨rfl,rfl⟩|⟨rfl,rfl⟩|⟨rfl,rfl⟩
     ·exact⟨_,_,_,_,_,rfl,cx T,hr.mono (by decide),(T.fn 50 rfl).2.1.kp,(T.fn 50 rfl).2.2,fM⟩
     ·exact⟨_,_,_,_,_,rfl,kG T,hr.mono (by decide),(T.fn 51 rfl).2.1.kp,(T.fn 51 rfl).2.2,fM⟩
     ·exact⟨_,_,_,_,_,rfl,kH T,hr.mono (by decide),(T.fn 52 rfl).2.1.kp,(T.fn 52 rfl).2.2,fM⟩) (aj (qv 4) aa)))
   (af (aY (av lp (qv 5) bJ (ax _)) (ai (au bJ)) aK)
   (ai (bf (aO (K:=K) (qv 3) (aj (qv 5) aa)))))))
   (ai (au (qv 3)))))),?_⟩
  dsimp only[st0];nofun;refine⟨_,f,rfl,rfl,hf,?_⟩;nofun;refine⟨aI (by simp),λd hd=>?_⟩;obtain⟨H1,e9,s1,td⟩:=nwR hd (.lst []);rw[e9];nofun;refine⟨a,rfl,⟨_,N4 (s1 _ _ ta)⟩,eE (a:=a) (xs:=ks.map λk=>N9 k.word) (λi σ H'=>Same H H'/\(∃us:List V,H' d=some (.lst us)/\us.length=i/\KsW H' us (ks.take i))/\∃v1 v2,σ=[some (N9 kd),some (Oa a),some (Oa f),some (Oa d),v1,v2]) ⟨s1,⟨[],td,rfl,rfl,λi v k h=>by simp at h⟩,_,_,rfl⟩ (λi σ H' _ h=>N4 (h.1 _ _ ta)) ?_ ?_⟩
  ·rintro i x σ H2 hx ⟨s2,⟨us,td2,hul,hD⟩,v1,v2,rfl⟩
   obtain⟨q,ex,eq,_,hi⟩:=aX hx;subst ex;have hq:=hok q (ES eq);nofun;refine⟨sp,hR,?_⟩;nofun;refine hsp q _ _ hq λv H3 s3 hv=>?_
   nofun;rw[decide_eq_false (Ky.some hv)];nofun;have td3:=s3 _ _ td2;refine⟨aZ td3,?_⟩;nofun;refine aM td3 (ar ⋯) ?_;have hdn:H d=none:=hd;have kt:∀b xs,H3 b=some (.tup xs)->(upd H3 d (.lst (us++[v]))) b=some (.tup xs):=λb xs e=>by
    rw[ak (λz=>by rw[z,td3]at e;cases e)];exact e
   nofun;refine⟨(s2.trans s3).own hdn,⟨us++[v],ae,by simp[hul],?_⟩,_,_,rfl⟩;rw[E3,eq];exact KsW.snoc ⟨hD.1,λj w z a b=>Ky.keep (Ky.keep (hD.2 j w z a b) λb xs e=>s3 _ _ e) kt⟩ (Ky.keep hv kt)
  ·rintro σ H2 ⟨s2,⟨us,td2,hul,hD⟩,v1,v2,rfl⟩
   rw[EE]at hD;rw[ER (EI _)]at hD;nofun;exact k d us H2 s2 hd td2 hD
theorem vq{c:Nat}:∀{x y r1 r2:List Nat},c∉x->c∉y->x++c::r1=y++c::r2->x=y/\r1=r2
 | [],[],_,_,_,_,h=>⟨rfl,(Gp h).2⟩
 | [],b::y,_,_,_,hy,h=>absurd (EO.mpr (.inl (Gp h).1)) hy
 | a::x,[],_,_,hx,_,h=>absurd (EO.mpr (.inl (Gp h).1.symm)) hx
 | a::x,b::y,_,_,hx,hy,h=>by
  obtain⟨e1,e2⟩:=Gp h;obtain⟨e3,e4⟩:=vq (λz=>hx (E4 _ z)) (λz=>hy (E4 _ z)) e2;exact⟨by rw[e1,e3],e4⟩
theorem fE(c:Nat)(x y:Str)(r:List Str):(Gv ⟨#[c]⟩ (x::y::r)).cps.toList=x.cps.toList++c::(Gv ⟨#[c]⟩ (y::r)).cps.toList:=by
 show(x++⟨#[c]⟩++Gv ⟨#[c]⟩ (y::r)).cps.toList=_
 rw[GK,GK,Gs,Gs,HQ];rfl
theorem m8{c:Nat}:∀{xs ys:List Str},xs≠[]->ys≠[]->(∀x∈xs,c∉x.cps.toList)->(∀y∈ys,c∉y.cps.toList)->(Gv ⟨#[c]⟩ xs).cps.toList=(Gv ⟨#[c]⟩ ys).cps.toList->xs=ys
 | [],_,h,_,_,_,_=>absurd rfl h
 | _,[],_,h,_,_,_=>absurd rfl h
 | [x],[y],_,_,_,_,h=>by rw[bV (x:=x) (y:=y) h]
 | [x],y::z::r,_,_,hx,_,h=>by
  rw[fE]at h;refine absurd ?_ (hx x (Fu.mpr rfl));rw[show x.cps.toList=_ from h];simp
 | x::z::r,[y],_,_,_,hy,h=>by
  rw[fE]at h;refine absurd ?_ (hy y (Fu.mpr rfl));rw[show y.cps.toList=_ from h.symm];simp
 | x::x2::xs,y::y2::ys,_,_,hx,hy,h=>by
  rw[fE,fE]at h;obtain⟨e1,e2⟩:=vq (hx x (Fn ..)) (hy y (Fn ..)) h;rw[bV e1,m8 (by simp) (by simp) (λz hz=>hx z (E4 _ hz)) (λz hz=>hy z (E4 _ hz)) e2]
theorem fY{rows:List Str}(h0:rows≠[])(h:∀r∈rows,c∉r.cps.toList):Gg (Gv ⟨#[c]⟩ rows) ⟨#[c]⟩=rows:=by
 refine m8 (c:=c) (λz=>?_) h0 (StrLaws.split_free _ c) h (by rw[StrLaws.join_split]);have:=split_pos (Gv ⟨#[c]⟩ rows) ⟨#[c]⟩;rw[z]at this;simp at this
theorem C5:("\n" : Str)=⟨#[10]⟩:=by decide +kernel
theorem uo:(" " : Str)=⟨#[32]⟩:=by decide +kernel
inductive Dd where
 | row (ks:List Ky)
 | pour (ks:List Ky)
 | ask (w:Str)
 | srt (w:Str)
noncomputable def askL:List Str:=["order","back","rings","ahead","cheapest","walk","puts","poured","heaps"]
noncomputable def AS:List Str:=["last","first","runs"]
noncomputable def Dd.words:Dd->List Str
 | .row ks=>"row"::ks.map Ky.word
 | .pour ks=>"pour"::ks.map Ky.word
 | .ask w=>[w]
 | .srt w=>["sort",w]
noncomputable def Dd.ok(kd:Str):Dd->Prop
 | .row ks=>(∀k∈ks,k.ok kd)/\ks.length<=60
 | .pour ks=>(∀k∈ks,k.ok kd)/\ks.length<=60/\1<=ks.length
 | .ask w=>w∈askL
 | .srt w=>w∈AS
noncomputable def Dd.many:Dd->Nat
 | .pour ks=>ks.length
 | _=>0
noncomputable def Dd.deed:Dd->Prop
 | .row _=>True
 | .pour _=>True
 | _=>False
noncomputable def DdV(H:Hp)(w:Str)(g:V):Dd->Prop
 | .row ks=>w = "row"/\∃l us,g=.ref l/\H l=some (.lst us)/\KsW H us ks
 | .pour ks=>w = "pour"/\∃l us,g=.ref l/\H l=some (.lst us)/\KsW H us ks
 | .ask a=>w=a/\g=.non
 | .srt a=>w = "sort"/\g=.str a
theorem KsW.same{H:Hp}{us:List V}{ks:List Ky}(h:KsW H us ks)(s:Same H H1):KsW H1 us ks:=⟨h.1,λi v k a b=>Ky.keep (h.2 i v k a b) λ_ _ e=>s _ _ e⟩
theorem DdV.same{H H1:Hp}{w:Str}{g:V}{d:Dd}(h:DdV H w g d)(s:Same H H1):DdV H1 w g d:=by
 cases d with
 | row ks=>obtain⟨a,l,us,b,c,e⟩:=h;exact⟨a,l,us,b,s _ _ c,e.same s⟩
 | pour ks=>obtain⟨a,l,us,b,c,e⟩:=h;exact⟨a,l,us,b,s _ _ c,e.same s⟩
 | ask a=>exact h
 | srt a=>exact h
def DsAt(H:Hp)(ts:List Addr)(ds:List Dd):Prop:=ts.length=ds.length/\∀(k:Nat) t d,ts[k]? = some t->ds[k]? = some d->∃w g,H t=some (.tup [.str w,g])/\DdV H w g d
theorem DsAt.same{H H1:Hp}{ts:List Addr}{ds:List Dd}(h:DsAt H ts ds)(s:Same H H1):DsAt H1 ts ds:=⟨h.1,λk t d a b=>by obtain⟨w,g,e,v⟩:=h.2 k t d a b;exact⟨w,g,s _ _ e,v.same s⟩⟩
theorem DsAt.snoc{H:Hp}{ts:List Addr}{ds:List Dd}{t:Addr}{d:Dd}{w:Str}{g:V}(h:DsAt H ts ds)(e1:H t=some (.tup [.str w,g]))(e2:DdV H w g d):DsAt H (ts++[t]) (ds++[d]):=by
 refine⟨by simp[h.1],λk t' n' a b=>?_⟩;by_cases hk:k<ts.length
 ·rw[E6 hk]at a
  rw[E6 (by rw[<-h.1];exact hk)]at b;exact h.2 k t' n' a b
 ·have e:k=ts.length:=by
   have:=(EM.mp a).1;simp at this;lia
  subst e;rw[E8 (EI _),G7]at a;rw[E8 (by rw[h.1];exact EI _),show ts.length - ds.length=0 by have:=h.1;lia]at b;cases a;cases b;exact⟨w,g,e1,e2⟩
def sgn(c:Nat):Prop:=39<=c/\c<=122
theorem rf(h:c∈dgs m):sgn c:=by have:=fW m c h;unfold sgn;lia
theorem hV(n:Int):∀c∈(toString n:Str).cps.toList,sgn c:=λc hc=>by
 rw[d8]at hc;split at hc
 ·rcases EO.mp hc with rfl|z
  ·unfold sgn;lia
  ·exact rf z
 ·exact rf hc
theorem lP(hx:∀c∈x.cps.toList,sgn c)(hy:∀c∈y.cps.toList,sgn c):∀c∈(x++y).cps.toList,sgn c:=λc hc=>by
 rw[GK,Gs]at hc;exact(Fq.mp hc).elim (hx c) (hy c)
theorem Ky.sgn{kd:Str}{k:Ky}(h:k.ok kd):∀c∈k.word.cps.toList,Fs.sgn c:=by
 cases k with
 | num n=>exact hV n
 | par n b=>
  show ∀c∈(fX n b).cps.toList,_
  unfold fX;split
  ·exact hV n
  ·exact lP (lP (hV n) (by unfold Fs.sgn;decide +kernel)) (hV b)
 | txt w=>
  refine lP (by unfold Fs.sgn;decide +kernel) λc hc=>?_
  have:=h.2.2.2.2 c hc;unfold Fs.sgn;lia
theorem m9{k:Ky}(h:k.ok kd):k.word.length<=60:=by
 cases k with
 | num n=>exact FB (cP h.2) (by decide)
 | par n b=>exact kF h.2
 | txt w=>have:=h.2.1;show(vp w).length<=60;rw[lO];lia
theorem uq:∀w∈AS,(∀c∈w.cps.toList,sgn c)/\w.length<=60:=by unfold sgn;decide +kernel
theorem ur:∀w∈askL,(∀c∈w.cps.toList,sgn c)/\w.length<=60:=by unfold sgn;decide +kernel
theorem nc:∀w∈(["row","pour","sort"]:List Str),(∀c∈w.cps.toList,sgn c)/\w.length<=60:=by unfold sgn;decide +kernel
theorem Dd.sgn{kd:Str}{d:Dd}(h:d.ok kd):∀w∈d.words,(∀c∈w.cps.toList,Fs.sgn c)/\w.length<=60:=λw hw=>by
 have key:∀(x:Str) (ks:List Ky),x∈(["row","pour","sort"]:List Str)->(∀k∈ks,k.ok kd)->w∈x::ks.map Ky.word->(∀c∈w.cps.toList,Fs.sgn c)/\w.length<=60:=λx ks hx hk hw=>by
  rcases EO.mp hw with rfl|hw
  ·exact nc _ hx
  ·obtain⟨k,hm,rfl⟩:=E1.mp hw
   exact⟨Ky.sgn (hk k hm),m9 (hk k hm)⟩
 cases d with
 | row ks=>exact key _ ks (by simp) h.1 hw
 | pour ks=>exact key _ ks (by simp) h.1 hw
 | ask a=>rw[Fu.mp hw];exact ur _ h
 | srt a=>
  rcases EO.mp hw with rfl|hw
  ·exact nc _ (by simp)
  ·rw[Fu.mp hw];exact uq _ h
theorem Dd.few{d:Dd}(h:d.ok kd):d.words.length<=61/\d.words≠[]:=by
 cases d with
 | row ks=>have:=h.2;exact⟨by simp[Dd.words];lia,GQ _ _⟩
 | pour ks=>have:=h.2.1;exact⟨by simp[Dd.words];lia,GQ _ _⟩
 | ask a=>exact⟨by simp[Dd.words],GQ _ _⟩
 | srt a=>exact⟨by simp[Dd.words],GQ _ _⟩
noncomputable def Dd.text(d:Dd):Str:=Gv ⟨#[32]⟩ d.words
theorem Dd.split {d:Dd}(h:d.ok kd):Gg d.text " " = d.words:=by
 rw[uo];refine fY (Dd.few h).2 λr hr z=>?_
 have:=(Dd.sgn h r hr).1 32 z;unfold Fs.sgn at this;lia
theorem i9{xs:List Str}(h:∀x∈xs,x.length<=m):(xs.map (·.length)).sum<=m*xs.length:=by
 induction xs with
 | nil=>simp
 | cons x xs ih=>
  have:=h x (Fn ..);have:=ih λr h'=>h r (E4 _ h')
  simp only[Fw,HV,Fk];rw[La];lia
theorem Dd.tlen{d:Dd}(h:d.ok kd):d.text.length<=4000:=by
 have e1:=Gx ⟨#[32]⟩ d.words;have e2:=i9 λw hw=>(Dd.sgn h w hw).2
 have e3:=(Dd.few h).1;have e4:((⟨#[32]⟩:Str)).length=1:=rfl;rw[e4]at e1;unfold Dd.text;lia
theorem jI{c:Nat}:∀{xs:List Str}{z:Nat},z∈(Gv ⟨#[c]⟩ xs).cps.toList->z=c\/∃x∈xs,z∈x.cps.toList
 | [],z,h=>by cases h
 | [x],z,h=>.inr ⟨x,by simp,h⟩
 | x::y::r,z,h=>by
  rw[fE]at h;rcases Fq.mp h with h|h
  ·exact .inr ⟨x,by simp,h⟩
  ·rcases EO.mp h with rfl|h
   ·exact .inl rfl
   ·rcases jI h with h|⟨w,a,b⟩
    ·exact .inl h
    ·exact .inr ⟨w,E4 _ a,b⟩
theorem Dd.nl{d:Dd}(h:d.ok kd):10∉d.text.cps.toList:=λz=>by
 rcases jI z with z|⟨w,a,b⟩
 ·cases z
 ·have:=(Dd.sgn h w a).1 10 b
  unfold Fs.sgn at this;lia
noncomputable def b9(n:Nat):Str:=⟨((Iu 10 n).map LR).toArray⟩
noncomputable def kindT (kd:Str) (b:Nat):Str:="kind "++kd++" "++b9 b
theorem kJ:∀n,n<65->2<=n->jF (b9 n)=true/\intText? (b9 n)=some (n:Int)/\32∉(b9 n).cps.toList/\10∉(b9 n).cps.toList/\(b9 n).length<=2:=by decide +kernel
noncomputable def cQ:List Str:=["number","part","text"]
theorem ng:∀kd∈cQ,oh kd=true/\32∉kd.cps.toList/\10∉kd.cps.toList/\kd.length<=6:=by decide +kernel
theorem kK (kd:Str) (n:Nat):kindT kd n=Gv ⟨#[32]⟩ ["kind",kd,b9 n]:=by
 have e:("kind " : Str) = "kind"++(⟨#[32]⟩:Str):=by decide +kernel
 unfold kindT;rw[e,uo];show _ = "kind"++(⟨#[32]⟩:Str)++(kd++⟨#[32]⟩++b9 n)
 rw[FD,FD,FD,FD,FD]
theorem oj (hk:32∉kd.cps.toList) (hn:32∉(b9 n).cps.toList):Gg (kindT kd n) " " = (["kind",kd,b9 n]:List Str):=by
 rw[kK,uo];refine fY (by simp) λr hr=>?_
 simp only[EO,Fl,or_false]at hr;rcases hr with rfl|rfl|rfl
 ·decide +kernel
 ·exact hk
 ·exact hn
theorem fZ (hk:kd∈cQ) (hn:n<=64) (hn2:2<=n):okK (Gg (kindT kd n) " ")/\rdK (Gg (kindT kd n) " ")=some (kd,(n:Int))/\(kindT kd n).length<=20/\10∉(kindT kd n).cps.toList/\¬kindT kd n = "":=by
 obtain⟨k1,k2,k3,k4⟩:=ng kd hk;obtain⟨n1,n2,n3,n4,n5⟩:=kJ n ⋯ hn2;have es:=oj k2 n3;have e5:("kind " : Str).length=5:=by decide +kernel
 have e6:(" " : Str).length=1:=by decide +kernel
 have hl:(kindT kd n).length=5+kd.length+1+(b9 n).length:=by
  unfold kindT;rw[FA,FA,FA,e5,e6]
 refine⟨?_,?_,by lia,λz=>?_,λz=>?_⟩
 ·rw[es]
  refine⟨by simp,λw hw=>?_,λ_ _=>?_⟩
  ·simp only[EO,Fl,or_false]at hw
   rcases hw with rfl|rfl|rfl
   ·decide +kernel
   ·lia
   ·lia
  ·show(intText? (b9 n)).isSome=true
   rw[n2];rfl
 ·rw[es]
  unfold rdK;rw[if_pos ⟨rfl,rfl,k1⟩];show(match iN (b9 n)with|none=>none|some b=>if b<2\/64<b then none else some (kd,b))=_
  unfold iN;rw[if_pos n1,n2];exact if_neg ⋯
 ·rw[kK]at z
  rcases jI z with z|⟨w,a,b⟩
  ·cases z
  ·simp only[EO,Fl,or_false]at a
   rcases a with rfl|rfl|rfl
   ·exact absurd b (by decide +kernel)
   ·exact k3 b
   ·exact n4 b
 ·rw[z]at hl
  have e0:("" : Str).length=0:=by decide +kernel
  lia
noncomputable def nbs(rows:List Str):Nat->List (Nat×Str)
 | 0=>[]
 | i+1=>nbs rows i++if rows.getD i "" = "" then[]else[(i,rows.getD i "")]
theorem lQ{rows:List Str}:∀i:Nat,(nbs rows i).length<=i
 | 0=>EI _
 | i+1=>by
  have:=lQ (rows:=rows) i;rw[nbs,Fd];split<;>simp<;>lia
theorem nh {rows:List Str}:∀i,i<=rows.length->(nbs rows i).map NT=(rows.take i).filter λr:Str=>decide (¬r = "")
 | 0,_=>rfl
 | i+1,h=>by
  have e:rows[i]? = some (rows.getD i ""):=by rw[EH,EF h];rfl
  rw[nbs,EK,nh i ⋯,E3,e,List.filter_append];generalize rows.getD i "" = r;by_cases z:r = ""
  ·rw[if_pos z];simp[z]
  ·rw[if_neg z];simp[z]
structure TextOk (text:Str) (rows:List Str) (kd:Str) (b:Nat) (ds:List Dd):Prop where
 spl:Gg text "\n" = rows
 len:text.length<=1000000
 few:rows.length<=200
 row:∀r∈rows,r.length<=4000
 all:(rows.filter λr:Str=>decide (¬r = ""))=kindT kd b::ds.map Dd.text
 kdm:kd∈cQ
 b2:2<=b
 b64:b<=64
 ok:∀d∈ds,d.ok kd
 sum:(ds.map Dd.many).sum<=200
noncomputable def uu (t:Ad):List (Str×Addr):=[("order",(t.f 65)),("back",(t.f 66)),("rings",(t.f 67)),("ahead",(t.f 68)),("cheapest",(t.f 69)),("walk",(t.f 70)),("puts",(t.f 71)),("poured",(t.f 72)),("heaps",(t.f 73))]
theorem rh{β:Type}{w:Str}:∀l:List (Str×β),(l.lookup w).isSome=(l.map Prod.fst).contains w
 | []=>rfl
 | (x,y)::l=>by
  rw[Fg,Fw,List.contains_cons,<-rh l];cases w == x<;>rfl
theorem rj(t:Ad)(w:Str):((uu t).lookup w).isSome=askL.contains w:=rh _
theorem kL:askL.contains ("row" : Str)=false/\askL.contains ("pour" : Str)=false:=by decide +kernel
theorem xZ:∀w∈AS,inV (N9 w) [N9 "last",N9 "first",N9 "runs"]=true:=by
 intro w hw;simp only[AS,EO,Fl,or_false]at hw;rcases hw with rfl|rfl|rfl<;>decide +kernel
def x4:Sp:=λvs H Q _=>∃(a:Addr) (d:Dd) (kd:Str),vs=[.ref a]/\H a=some (.lst (d.words.map N9))/\d.ok kd/\(d.deed->Q .non H)/\(¬d.deed->∀(x:Addr) (w:Str) (g:V) H',Same H H'->H' x=some (.tup [.str w,g])->DdV H' w g d->Q (.ref x) H')
theorem lR (T:Tx K mg t):FnOk P t.wd K mg t.bs CX0 1 (t.f 76) (t.d 76) ["words"] x4:=by
 refine okT (N:=["words"]) (T.fn 76 rfl) (λH Q hr nd h=>?_)
 ·obtain⟨a,d,kd,rfl,ta,hd,k0,k⟩:=h
  refine⟨_,(af (aY (Od (gf (av gj (aq (a8 (K:=K)) (by rfl) T.bA aR (aj (qv 0) aa)) ah (ax _)) (fN (av (Aw T.nA T.jR) (aH (aT (K:=K)) (qv 0) ah) (bT (v:=.ref t.fJ) rfl T.vE rfl) rfl)))) (ai (au (bP (aj (aH (aT (K:=K)) (qv 0) ah) (aj bJ aa))))) aK)
   (af (aY (Od (gf (av gj (aq (a8 (K:=K)) (by rfl) T.bA aR (aj (qv 0) aa)) ah (ax _)) (gf (av gj (aH (aT (K:=K)) (qv 0) ah) aw (ax _)) (fN (av (CN (K:=K)) (aH (aT (K:=K)) (qv 0) ah) (bT (v:=.ref t.iz) rfl T.Bi rfl) rfl))))) (ai (au (bP (aj aw (aj (aH (aT (K:=K)) (qv 0) ah) aa))))) aK)
   (ai (au bJ)))),?_⟩
  dsimp only[st0];nofun;refine aJ (N4 ta) ?_;rw[EE];nofun;obtain⟨x,r,e,hx⟩:∃x r,d.words=x::r/\((d.deed/\(x = "row"\/x = "pour"))\/(¬d.deed/\(d=.ask x/\r=[]/\x∈askL\/∃w,d=.srt w/\x = "sort"/\r=[w]/\w∈AS))):=by
   cases d with
   | row ks=>exact⟨_,_,rfl,.inl ⟨trivial,.inl rfl⟩⟩
   | pour ks=>exact⟨_,_,rfl,.inl ⟨trivial,.inr rfl⟩⟩
   | ask w=>exact⟨_,_,rfl,.inr ⟨id,.inl ⟨rfl,rfl,hd⟩⟩⟩
   | srt w=>exact⟨_,_,rfl,.inr ⟨id,.inr ⟨w,rfl,rfl,rfl,hd⟩⟩⟩
  rw[e]at ta ⊢;have at0:atI ((x::r).map N9) 0=some (N9 x):=bc (j:=0) rfl;have hl1:∀(m:Nat),decide (N7 (((x::r).length:Nat):Int)=N7 (m:Nat))=decide ((x::r).length=m):=λm=>by
   by_cases z:(x::r).length=m
   ·rw[z,decide_eq_true rfl,decide_eq_true rfl]
   ·rw[decide_eq_false z,decide_eq_false λu=>z (by have:=N7.inj u;lia)]
  rw[show(N7 1)=N7 ((1:Nat):Int)from rfl,hl1];rcases hx with⟨hd',hx⟩|⟨hd',hx⟩
  ·have hns:¬x = "sort":=by rcases hx with rfl | rfl<;>decide +kernel
   have hna:askL.contains x=false:=by rcases hx with rfl|rfl<;>first|exact kL.1|exact kL.2
   have two:∀{Q':Prop},Q'->Q':=id
   by_cases h1:(x::r).length=1
   ·rw[decide_eq_true h1]
    nofun;refine bq (N4 ta) at0 ?_;nofun;refine⟨x,rfl,rfl,?_⟩;have q:=rj t x;unfold uu at q;rw[q,hna];nofun;refine aJ (N4 ta) ?_;rw[EE];nofun;rw[show(N7 2)=N7 ((2:Nat):Int)from rfl,hl1,decide_eq_false ⋯];nofun;exact k0 hd'
   ·rw[decide_eq_false h1]
    nofun;refine aJ (N4 ta) ?_;rw[EE];nofun;rw[show(N7 2)=N7 ((2:Nat):Int)from rfl,hl1];by_cases h2:(x::r).length=2
    ·rw[decide_eq_true h2]
     nofun;refine bq (N4 ta) at0 ?_;nofun;rw[decide_eq_false λu=>hns (N9.inj u)];nofun;exact k0 hd'
    ·rw[decide_eq_false h2]
     nofun;exact k0 hd'
  ·have k:=k hd'
   rcases hx with⟨rfl,rfl,hm⟩|⟨w,rfl,rfl,rfl,hm⟩
   ·rw[decide_eq_true (show([x]:List Str).length=1 from rfl)]
    nofun;refine⟨x,rfl,rfl,?_⟩;have q:=rj t x;unfold uu at q;rw[q,show askL.contains x=true from G8.mpr hm];nofun;exact⟨aI (by simp),λy hy=>k y _ _ _ ((Oc H).new hy) ae ⟨rfl,rfl⟩⟩
   ·rw[decide_eq_false (show ¬((("sort" : Str)::[w]).length=1)from λz=>by simp at z)]
    nofun;refine aJ (N4 ta) ?_;nofun;rw[decide_eq_true (show N7 (((([("sort" : Str),w]).map N9).length:Nat):Int)=N7 2 from rfl)];nofun;rw[decide_eq_true rfl];nofun;refine⟨t.iz,_,rfl,.inr (T.uG _),rfl,rfl,?_⟩;rw[if_neg (by decide),xZ w hm];nofun;exact⟨aI (by simp),λy hy=>k y _ _ _ ((Oc H).new hy) ae ⟨rfl,rfl⟩⟩
def uv:Sp:=λvs H Q _=>∃(kd:Str) (a:Addr) (d:Dd) (m:Nat),vs=[.str kd,.ref a,.int m]/\H a=some (.lst (d.words.map N9))/\kd∈cQ/\d.ok kd/\d.deed/\d.many<=m/\∀(x:Addr) (w:Str) (g:V) H',Same H H'->H' x=some (.tup [.str w,g])->DdV H' w g d->(∀l,g=.ref l->H l=none)->Q (.ref x) H'
theorem gD (h:kd∈cQ):kd = "number"\/kd = "part"\/kd = "text":=by
 simpa [cQ]using h
theorem C6{x:V}:oV (x::xs) (some 1) none=xs:=by
 unfold oV;simp[HT.sIx]
theorem kM (T:Tx K mg t):FnOk P t.wd K mg t.bs CX0 6 (t.f 75) (t.d 75) ["kind","words","room"] uv:=by
 refine okT (N:=["kind","words","room","keys"]) (T.fn 75 rfl) (λH Q hr nd h=>?_)
 ·obtain⟨kd,a,d,m,rfl,ta,hkd,hd,hdd,hm,k⟩:=h
  obtain⟨x,ks,e,hok,hks,hx⟩:∃x ks,d.words=x::ks.map Ky.word/\(∀k∈ks,k.ok kd)/\ks.length<=60/\((x = "row"/\d=.row ks)\/(x = "pour"/\d=.pour ks/\1<=ks.length/\ks.length<=m)):=by
   cases d with
   | row ks=>exact⟨_,ks,rfl,hd.1,hd.2,.inl ⟨rfl,rfl⟩⟩
   | pour ks=>exact⟨_,ks,rfl,hd.1,hd.2.1,.inr ⟨rfl,rfl,hd.2.2,hm⟩⟩
   | ask w=>exact hdd.elim
   | srt w=>exact hdd.elim
  rw[e]at ta;have at0:atI ((x::ks.map Ky.word).map N9) 0=some (N9 x):=bc (j:=0) rfl;refine⟨_,(af (aF (i:=3) (az (kI T) hr (T.fn 54 rfl) (aj (qv 0) (aj (dw (pz (K:=K)) (qv 1) (dr ah) gQ) aa))))
   (af (aY (av lp (qv 3) bJ (ax _)) (ai (au bJ)) aK)
   (af (aY (Od (gf (av gj (aH (aT (K:=K)) (qv 1) ah) aw (ax _)) (fN (av DG (aq (a8 (K:=K)) (by rfl) T.bA aR (aj (qv 3) aa)) (bT (v:=.int 200) rfl T.iC ⟨_,rfl⟩) (ax _))))) (ai (au (bP (aj aw (aj (qv 3) aa))))) aK)
   (af (aY (Od (gf (av gj (aH (aT (K:=K)) (qv 1) ah) aw (ax _)) (gf (av CC (aq (a8 (K:=K)) (by rfl) T.bA aR (aj (qv 3) aa)) ah (ax _)) (fN (av DG (aq (a8 (K:=K)) (by rfl) T.bA aR (aj (qv 3) aa)) (qv 2) (ax _)))))) (ai (au (bP (aj aw (aj (qv 3) aa))))) aK)
   (ai (au bJ)))))),?_⟩
  dsimp only[st0];nofun;refine⟨1,rfl,?_⟩;nofun;refine lJ ta λp H1 s1 tp=>?_
  rw[Fw,C6,Gd]at tp;nofun;refine⟨kd,p,ks,rfl,tp,gD hkd,hok,by lia,λl us H2 s2 hl tl hK=>?_⟩;nofun;rw[decide_eq_false (show ¬Oa l=Ob from λz=>nomatch z)];nofun;have s12:=s1.trans s2;have ta2:=s12 _ _ ta;refine bq (N4 ta2) at0 ?_;nofun;rcases hx with⟨rfl,rfl⟩|⟨rfl,rfl,h1,h2⟩
  ·rw[decide_eq_true rfl]
   nofun;refine aJ (N4 tl) ?_;nofun;rw[decide_eq_true (show((us.length:Nat):Int)<=200 by rw[hK.1];lia)];nofun;refine⟨aI (by simp),λy hy=>?_⟩;have s3:=(Oc H2).new (o:=.tup [.str "row",.ref l]) hy;exact k y _ _ _ (s12.trans s3) ae ⟨rfl,l,us,rfl,s3 _ _ tl,hK.same s3⟩ (λl' e=>by cases e;exact s1.free hl)
  ·rw[decide_eq_false (show ¬N9 "pour" = N9 "row" from λz=>absurd (N9.inj z) (by decide +kernel))]
   nofun;refine bq (N4 ta2) at0 ?_;nofun;rw[decide_eq_true rfl];nofun;refine aJ (N4 tl) ?_;nofun;rw[decide_eq_true (show((us.length:Nat):Int)>=1 by rw[hK.1];lia)];nofun;refine aJ (N4 tl) ?_;nofun;rw[decide_eq_true (show((us.length:Nat):Int)<=(m:Int)by rw[hK.1];lia)];nofun;refine⟨aI (by simp),λy hy=>?_⟩;have s3:=(Oc H2).new (o:=.tup [.str "pour",.ref l]) hy;exact k y _ _ _ (s12.trans s3) ae ⟨rfl,l,us,rfl,s3 _ _ tl,hK.same s3⟩ (λl' e=>by cases e;exact s1.free hl)
def NbAt (H:Hp) (ts:List Addr) (ns:List (Nat×Str)):Prop:=ts.length=ns.length/\∀(k:Nat) t n,ts[k]? = some t->ns[k]? = some n->∃l,H t=some (.tup [.int (n.1:Nat),.ref l])/\H l=some (.lst ((Gg n.2 " ").map N9))
theorem NbAt.same{H:Hp}{ts:List Addr}{ns:List (Nat×Str)}(h:NbAt H ts ns)(s:Same H H1):NbAt H1 ts ns:=⟨h.1,λk t n a b=>by obtain⟨l,e1,e2⟩:=h.2 k t n a b;exact⟨l,s _ _ e1,s _ _ e2⟩⟩
theorem NbAt.snoc {H:Hp}{ts:List Addr}{ns:List (Nat×Str)}{t:Addr}{n:Nat×Str}(h:NbAt H ts ns) (e1:H t=some (.tup [.int (n.1:Nat),.ref l])) (e2:H l=some (.lst ((Gg n.2 " ").map N9))):NbAt H (ts++[t]) (ns++[n]):=by
 refine⟨by simp[h.1],λk t' n' a b=>?_⟩;by_cases hk:k<ts.length
 ·rw[E6 hk]at a
  rw[E6 (by rw[<-h.1];exact hk)]at b;exact h.2 k t' n' a b
 ·have e:k=ts.length:=by
   have:=(EM.mp a).1;simp at this;lia
  subst e;rw[E8 (EI _),G7]at a;rw[E8 (by rw[h.1];exact EI _),show ts.length - ns.length=0 by have:=h.1;lia]at b;cases a;cases b;exact⟨l,e1,e2⟩
theorem DdV.nref{H:Hp}{w:Str}{g:V}{d:Dd}(h:DdV H w g d)(hn:¬d.deed)(l:Addr):g≠.ref l:=by
 cases d with
 | row ks=>exact(hn trivial).elim
 | pour ks=>exact(hn trivial).elim
 | ask a=>rw[h.2];exact λz=>nomatch z
 | srt a=>rw[h.2];exact λz=>nomatch z
theorem DdV.own{H:Hp}{w:Str}{g:V}{d:Dd}(h:DdV H w g d)(e:H a=some (.lst xs))(hl:∀l,g=.ref l->l≠a):DdV (upd H a (.lst ys)) w g d:=by
 have tu:∀b zs,H b=some (.tup zs)->(upd H a (.lst ys)) b=some (.tup zs):=λb zs q=>by rw[ak (λz=>by rw[z,e]at q;cases q)];exact q
 cases d with
 | row ks=>obtain⟨p,l,us,b,c,q⟩:=h;exact⟨p,l,us,b,by rw[ak (hl l b)];exact c,q.1,λi v k m n=>Ky.keep (q.2 i v k m n) tu⟩
 | pour ks=>obtain⟨p,l,us,b,c,q⟩:=h;exact⟨p,l,us,b,by rw[ak (hl l b)];exact c,q.1,λi v k m n=>Ky.keep (q.2 i v k m n) tu⟩
 | ask a=>exact h
 | srt a=>exact h
theorem rk{ds:List Dd}{d:Dd}(e:ds[i]? = some d):((ds.take (i+1)).map Dd.many).sum=((ds.take i).map Dd.many).sum+d.many/\((ds.take (i+1)).map Dd.many).sum<=(ds.map Dd.many).sum:=by
 constructor
 ·rw[E3,e,EK,JC]
  simp
 ·conv=>rhs;rw[<-JS (i+1) ds,EK,JC]
  lia
theorem DdV.wd {H:Hp}{w:Str}{g:V}{d:Dd}(h:DdV H w g d) (hd:d.ok kd):(w = "pour"/\∃l us,g=.ref l/\H l=some (.lst us)/\us.length=d.many)\/(¬w = "pour"/\d.many=0):=by
 cases d with
 | row ks=>exact .inr ⟨by rw[h.1];decide +kernel,rfl⟩
 | pour ks=>obtain⟨a,l,us,b,c,e⟩:=h;exact .inl ⟨a,l,us,b,c,e.1⟩
 | ask w=>refine .inr ⟨?_,rfl⟩;rw[h.1];rintro rfl;exact absurd (G8.mpr hd) (by rw[kL.2];decide)
 | srt w=>exact .inr ⟨by rw[h.1];decide +kernel,rfl⟩
def rm:Sp:=λvs H Q _=>∃(kd:Str) (a:Addr) (ts:List Addr) (ns:List (Nat×Str)) (ds:List Dd),vs=[.str kd,.ref a]/\H a=some (.lst (ts.map Oa))/\NbAt H ts ns/\kd∈cQ/\ns.map NT=ds.map Dd.text/\(∀d∈ds,d.ok kd)/\(ds.map Dd.many).sum<=200/\ds.length<=200/\
 ∀(d:Addr) (us:List Addr) H',Same H H'->H' d=some (.lst (us.map Oa))->DsAt H' us ds->Q (.ref d) H'
theorem jJ (T:Tx K mg t):FnOk P t.wd K mg t.bs CX0 7 (t.f 77) (t.d 77) ["kind","numbered"] rm:=by
 refine okT (N:=["kind","numbered","deeds","room","line","words","deed"]) (T.fn 77 rfl) (λH Q hr nd h=>?_)
 ·obtain⟨kd,a,ts,ns,ds,rfl,ta,hN,hkd,hns,hA,hsum,hn,k⟩:=h
  have htl:ts.length=ns.length:=hN.1;have hnl:ns.length=ds.length:=by have:=congrArg GX hns;simpa using this
  refine⟨_,(af (aF (i:=2) (aP aa))
   (af (aF (i:=3) (bT (v:=.int 200) rfl T.iC ⟨_,rfl⟩))
   (af (cf Fp rfl (bx (K:=K) (qv 1)) (c6 (K:=K) (n:=2) rfl (aE (aN (i:=4)) (aE (aN (i:=5)) bZ))) (af (aF (i:=6) (mX (K:=K) (az (lR T) hr (T.fn 76 rfl) (aj (qv 5) aa)) (iX (az (kM T) hr (T.fn 75 rfl) (aj (qv 0) (aj (qv 5) (aj (qv 3) aa)))))))
   (af (aY (av lp (qv 6) bJ (ax _)) (ai dy) aK)
   (af (aY (av gj (aH (eW (K:=K)) (qv 6) ah) aw (ax _)) (ai (mj (i:=3) nd rfl (II rfl) (aq (a8 (K:=K)) (by rfl) T.bA aR (aj (aH (eW (K:=K)) (qv 6) ah) aa)) zS)) aK)
   (ai (bf (aO (K:=K) (qv 2) (aj (qv 6) aa))))))))
   (ai (au (qv 2)))))),?_⟩
  dsimp only[st0];nofun;refine⟨aI (by simp),λd hd=>?_⟩;obtain⟨H1,e9,s1,(td:H1 d=some (.lst (([]:List Addr).map Oa)))⟩:=nwR hd (.lst []);rw[e9];nofun;refine⟨a,rfl,⟨_,N4 (s1 _ _ ta)⟩,eE (a:=a) (xs:=ts.map Oa) (λi σ H'=>Same H H'/\(∃us:List Addr,H' d=some (.lst (us.map Oa))/\us.length=i/\DsAt H' us (ds.take i)/\∀q∈us,∀w l,H' q=some (.tup [.str w,.ref l])->l≠d)/\∃v1 v2 v3,σ=[some (N9 kd),some (Oa a),some (Oa d),some (N7 ((200 - ((ds.take i).map Dd.many).sum:Nat):Int)),v1,v2,v3]) ⟨s1,⟨[],td,rfl,⟨rfl,λk t w h=>by simp at h⟩,λq h=>nomatch h⟩,_,_,_,rfl⟩ (λi σ H' _ h=>N4 (h.1 _ _ ta)) ?_ ?_⟩
  ·rintro i x σ H2 hx ⟨s2,⟨us,td2,hul,hD,hne⟩,v1,v2,v3,rfl⟩
   obtain⟨q,rfl,eq,_,hi⟩:=aX hx;have en:ns[i]? = some (ns[i]'⋯):=EF _;have edd:ds[i]? = some (ds[i]'⋯):=EF _;have hw:=hA _ (ES edd);obtain⟨l,e1,e2⟩:=hN.2 i q _ eq en;have et:(ns[i]'⋯).2=(ds[i]'⋯).text:=by
    have z:=congrArg (λxs=>xs[i]?) hns;rw[EN,EN,en,edd]at z;exact EY z
   rw[et,Dd.split hw]at e2;obtain⟨m1,m2⟩:=rk edd;generalize ns[i]'⋯=n at en e1;generalize ds[i]'⋯=dd at edd hw e2 m1 m2;refine cu (s2 _ _ e1) ?_;dsimp only[F7];nofun;have hdn:H d=none:=hd;apply yH (α:=Addr) (S:=λx H3=>∃w g,Same H2 H3/\H3 x=some (.tup [.str w,g])/\DdV H3 w g dd/\∀l,g=.ref l->l≠d);case hA=>
    intro key;refine⟨l,dd,kd,rfl,s2 _ _ e2,hw,λhdd=>?_,λhdd x w g H3 s3 tx hv=>?_⟩
    ·refine⟨false,rfl,(λz=>nomatch z),λ_=>?_⟩
     nofun;refine⟨kd,l,dd,_,rfl,s2 _ _ e2,hkd,hw,hdd,by lia,λx w g H3 s3 tx hv hf=>?_⟩;nofun;exact key x H3 ⟨w,g,s3,tx,hv,λl e=>E7 (ao td2 (hf l e))⟩
    ·refine⟨true,.inr (.inl ⟨_,N6 tx,rfl⟩),λ_=>?_,λz=>nomatch z⟩
     nofun;exact key x H3 ⟨w,g,s3,tx,hv,λl e=>absurd e (hv.nref hdd l)⟩
   case hB=>
    rintro x H3 ⟨w,g,s3,tx,hv,hgl⟩;nofun;refine gO (λz=>nomatch z) ?_;nofun;have td3:=s3 _ _ td2;apply yH (α:=V) (S:=λr H4=>r=N7 ((200 - ((ds.take (i+1)).map Dd.many).sum:Nat):Int)/\H3=H4);case hA=>
     intro key;rcases hv.wd hw with⟨hwp,l2,us2,hg,e3,e4⟩|⟨hnp,hm0⟩
     ·rw[decide_eq_true (congrArg N9 hwp)]
      nofun;rw[hg];refine aJ (N4 e3) ?_;nofun;have er:N7 (((200 - ((ds.take i).map Dd.many).sum:Nat):Int) - (us2.length:Nat))=N7 ((200 - ((ds.take (i+1)).map Dd.many).sum:Nat):Int):=congrArg N7 ⋯;rw[er];generalize e7:N7 ((200 - ((ds.take (i+1)).map Dd.many).sum:Nat):Int)=r;generalize e8:H3=H4;dsimp only[F7];exact key r H4 ⟨e7.symm,e8⟩
     ·rw[decide_eq_false λu=>hnp (N9.inj u)]
      nofun;have er:N7 ((200 - ((ds.take i).map Dd.many).sum:Nat):Int)=N7 ((200 - ((ds.take (i+1)).map Dd.many).sum:Nat):Int):=congrArg N7 ⋯;rw[er];generalize e7:N7 ((200 - ((ds.take (i+1)).map Dd.many).sum:Nat):Int)=r;generalize e8:H3=H4;dsimp only[F7];exact key r H4 ⟨e7.symm,e8⟩
    case hB=>
     rintro r H4 ⟨rfl,rfl⟩;refine⟨aZ td3,?_⟩;nofun;refine aM td3 (by rw[EE];exact ar ⋯) ?_;have s23:=s2.trans s3;have nt:∀b zs,H3 b=some (.tup zs)->(upd H3 d (.lst (us.map Oa++[Oa x]))) b=some (.tup zs):=λb zs q=>by rw[ak (λz=>by rw[z,td3]at q;cases q)];exact q
     have D3:=hD.same s3;nofun;refine⟨s23.own hdn,⟨us++[x],by rw[ae,EK];rfl,by simp[hul],?_,λq hq w' l' e=>?_⟩,_,_,_,rfl⟩
     ·rw[E3,edd]
      refine DsAt.snoc ⟨D3.1,λk t dk a b=>?_⟩ (nt _ _ tx) (hv.own td3 hgl);obtain⟨w',g',e5,e6⟩:=D3.2 k t dk a b;refine⟨w',g',nt _ _ e5,e6.own td3 λl' z=>?_⟩;obtain⟨w2,g2,e7,_⟩:=hD.2 k t dk a b;have e8:=s3 _ _ e7;rw[e5]at e8;cases e8;exact hne t (ES a) w' l' (by rw[<-z];exact e7)
     ·have hqd:q≠d:=λz=>by rw[z,ae]at e;cases e
      rw[ak hqd]at e;rcases Fq.mp hq with hq|hq
      ·obtain⟨k,hk,rfl⟩:=F9 hq
       obtain⟨w2,g2,e7,_⟩:=hD.2 k us[k] ((ds.take i)[k]'(by rw[<-hD.1];exact hk)) (EF hk) (EF _);have e8:=s3 _ _ e7;rw[e]at e8;cases e8;exact hne _ hq _ l' e7
      ·obtain rfl:=Fu.mp hq
       rw[tx]at e;cases e;exact hgl l' rfl
  ·rintro σ H2 ⟨s2,⟨us,td2,hul,hD,_⟩,v1,v2,v3,rfl⟩
   rw[EE]at hul hD;rw[ER ⋯]at hD;nofun;exact k d us H2 s2 td2 hD
def uw:Sp:=λvs H Q _=>∃(text:Str) (rows:List Str) (kd:Str) (b:Nat) (ds:List Dd),vs=[.str text]/\TextOk text rows kd b ds/\∀(x h d:Addr) (us:List Addr) H',Same H H'->H' x=some (.tup [.ref h,.ref d])->H' h=some (.tup [.str kd,.int b])->H' d=some (.lst (us.map Oa))->DsAt H' us ds->Q (.ref x) H'
theorem kN (T:Tx K mg t):FnOk P t.wd K mg t.bs CX0 8 (t.f 78) (t.d 78) ["text"] uw:=by
 refine okT (N:=["text","rows","numbered","line","words","head"]) (T.fn 78 rfl) (λH Q hr nd h=>?_)
 ·obtain⟨text,rows,kd,b,ds,rfl,hT,k⟩:=h
  have hrl:=hT.few;refine⟨_,(af (aF (i:=1) (mW (K:=K) (qv 0) (aj aw aa)))
   (af (xh (i:=2) (N:=["line","row"]) (tgs:=["line","row"]) (frs:=[]) (ix:=[])  nd rfl (II rfl) ⟨rfl,by decide +kernel,rfl,by decide +kernel,rfl,rfl,EX,EX,rfl⟩ rfl (kg (K:=K) rfl T.c4 (aj (qv 1) aa)) (λ_ _ _ _=>(c6 (K:=K) (n:=2) rfl (aE (aN (i:=0)) (aE (aN (i:=1)) bZ)))) (λ_ _ _ _=>(bP (aj (qv 0) (aj (mW (K:=K) (qv 1) (aj aw aa)) aa)))) (λ_ _ _ _=>(av yF (qv 1) aw (ax _))))
   (af (aY (c5 (jl (K:=K) (qv 2))) (ai dy) aK)
   (af (ll (aH (aT (K:=K)) (qv 2) ah) (c6 (K:=K) (n:=2) rfl (aE (aN (i:=3)) (aE (aN (i:=4)) bZ))))
   (af (aF (i:=5) (az (kE T) hr (T.fn 74 rfl) (aj (qv 4) aa)))
   (af (aY (av lp (qv 5) bJ (ax _)) (ai dy) aK)
   (ai (au (bP (aj (qv 5) (aj (az (jJ T) hr (T.fn 77 rfl) (aj (aH (eW (K:=K)) (qv 5) ah) (aj (dw (pz (K:=K)) (qv 2) (dr ah) gQ) aa))) aa))))))))))),?_⟩
  dsimp only[st0];nofun;refine⟨rfl,?_⟩;nofun;refine⟨text,"\n",rfl,rfl,by decide +kernel,by rw[Oj];have:=hT.len;lia,λra hra=>?_⟩;rw[hT.spl];obtain⟨H1,e9,s1,tra⟩:=nwR hra (.lst (rows.map N9));rw[e9];nofun;refine⟨ra,rfl,⟨_,N4 tra⟩,pQ (n:=rows.length) (λi ys σ H'=>Same H1 H'/\(∃ts:List Addr,ys=ts.map Oa/\NbAt H' ts (nbs rows i))/\∃v w,σ=[v,w]) (ar ⋯) (λi ys σ H' h=>by obtain⟨_,⟨ts,rfl,e,_⟩,_⟩:=h;rw[EE,e];exact lQ i) ⟨Oc _,⟨[],rfl,rfl,λk t n h=>by simp at h⟩,none,none,rfl⟩ ?_ ?_ ?_ ?_⟩
  ·rintro i ys σ H2 hi ⟨s2,_⟩
   exact⟨_,N9 (rows.getD i ""),N4 (s2 _ _ tra),i7 hi⟩
  ·rintro ys σ H2 ⟨s2,_⟩
   exact⟨_,N4 (s2 _ _ tra),by rw[EE]⟩
  ·rintro i x ys σ H2 H3 hi ⟨s2,⟨ts,rfl,hN⟩,v,w,rfl⟩ ⟨q,x1,rfl,hq,rfl,hx1⟩
   have hx2:=hx1 _ (N4 (s2 _ _ tra));rw[i7 hi]at hx2;cases hx2;have hr:=hT.row _ (m5 hi);have enb:nbs rows (i+1)=nbs rows i++if rows.getD i "" = "" then[]else[(i,rows.getD i "")]:=rfl
   generalize rows.getD i "" = r at hr enb;refine cu ae ?_;dsimp only[F7];have s3:=(Oc H2).new (o:=.tup [N7 (i:Nat),N9 r]) hq;generalize upd H2 q (.tup [N7 (i:Nat),N9 r])=H3 at s3;nofun;refine lL ?_;by_cases e:r = ""
   ·rw[decide_eq_true (congrArg N9 e)]
    nofun;refine Oe hi ⟨s2.trans s3,⟨ts,rfl,?_⟩,_,_,rfl⟩;rw[enb,if_pos e,Gj];exact hN.same s3
   ·rw[decide_eq_false λu=>e (N9.inj u)]
    nofun;refine⟨rfl,?_⟩;nofun;refine⟨r," ",rfl,rfl,by decide +kernel,uf ⋯,λl hl=>?_⟩;obtain⟨H4,e9,s4,tl⟩:=nwR hl (.lst ((Gg r " ").map N9));rw[e9];nofun;refine⟨aI (by simp),λz hz=>?_⟩;have s5:=(Oc H4).new (o:=.tup [N7 (i:Nat),Oa l]) hz;refine Oe hi ⟨s2.trans (s3.trans (s4.trans s5)),⟨ts++[z],by rw[EK];rfl,?_⟩,_,_,rfl⟩;rw[enb,if_neg e];exact((hN.same (s3.trans (s4.trans s5)))).snoc (n:=(i,r)) ae (s5 _ _ tl)
  rintro ys σ H2 ⟨s2,⟨ts,rfl,hN⟩,v,w,rfl⟩ na hna;have s3:=(s1.trans s2).new (o:=.lst (ts.map Oa)) hna;have tna:(upd H2 na (.lst (ts.map Oa))) na=some (.lst (ts.map Oa)):=ae;have N3:=hN.same ((Oc H2).new (o:=.lst (ts.map Oa)) hna);generalize upd H2 na (.lst (ts.map Oa))=H3 at s3 tna N3;have hnl:=lQ (rows:=rows) rows.length;have hns:=nh (rows:=rows) rows.length (EI _);rw[ER (EI _),hT.all]at hns;generalize nbs rows rows.length=ns at N3 hnl hns;nofun;refine⟨_,DM (N4 tna),?_⟩;obtain⟨n0,rest0,rfl⟩:∃n r,ns=n::r:=by cases ns with|nil=>cases hns|cons n r=>exact⟨n,r,rfl⟩
  obtain⟨t0,ts0,rfl⟩:∃n r,ts=n::r:=by
   cases ts with
   | nil=>have:=N3.1;simp at this
   | cons n r=>exact⟨n,r,rfl⟩
  rw[Fw]at hns;obtain⟨hn0,hns⟩:=Gp hns;obtain⟨l0,e1,e2⟩:=N3.2 0 t0 n0 rfl rfl;rw[hn0]at e2;obtain⟨f1,f2,_⟩:=fZ hT.kdm hT.b64 hT.b2;rw[show(!(Li Oa (t0::ts0)).isEmpty)=true from rfl];nofun;refine bq (N4 tna) (v:=Oa t0) (bc (j:=0) rfl) ?_;refine cu e1 ?_;dsimp only[F7];nofun;refine⟨l0,_,rfl,e2,f1,(λen=>by rw[f2]at en;cases en),λx kd' b' H4 s4 en tx=>?_⟩;rw[f2]at en;cases en;nofun;rw[decide_eq_false (show ¬Oa x=Ob from λz=>nomatch z)];nofun;refine⟨1,rfl,?_⟩;nofun;refine lJ (s4 _ _ tna) λp H5 s5 tp=>?_
  rw[Fw,C6]at tp;nofun;have N5:NbAt H5 ts0 rest0:=⟨by have:=N3.1;simpa using this,λk t n a b=>by obtain⟨l,e1,e2⟩:=N3.2 (k+1) t n a b;exact⟨l,s5 _ _ (s4 _ _ e1),s5 _ _ (s4 _ _ e2)⟩⟩;have hdl:ds.length<=200:=by
   have:=congrArg GX hns;simp only[EE]at this;simp only[Fk]at hnl;lia
  refine⟨kd,p,ts0,rest0,ds,rfl,tp,N5,hT.kdm,hns,hT.ok,hT.sum,hdl,λd us H6 s6 td D=>?_⟩;refine⟨aI (by simp),λy hy=>?_⟩;have s7:=(Oc H6).new (o:=.tup [Oa x,Oa d]) hy;exact k y x d us _ (s3.trans (s4.trans (s5.trans (s6.trans s7)))) ae (s7 _ _ (s6 _ _ (s5 _ _ tx))) (s7 _ _ td) (D.same s7)
def OrdR(rss:List (List Nat))(os:List Nat):Prop:=os.Perm (EZ rss.length)/\os.Pairwise (Rk rss 0)
noncomputable def PlO:HO->Prop
 | .lst _=>True
 | .tup _=>True
 | .ins _ _ _=>True
 | _=>False
def Tb(t:Ad)(H:Hp):Prop:=yJ t.pt H
def Sx(t:Ad)(H H1:Hp):Prop:=SameX t.pt H H1
section
variable{t:Ad}{H H1 H2:Hp}{a:Addr}{o o2:HO}
theorem Tb.nep(T:Tb t H)(e:H a=some o)(ho:PlO o):a≠t.pt:=λz=>by
 rcases T with q|⟨c,q,_⟩<;>(rw[<-z,e]at q;cases q;exact ho)
theorem Sx.of(s:Same H H1):Sx t H H1:=λb u _ e=>s b u e
theorem Sx.trans(s:Sx t H H1)(s2:Sx t H1 H2):Sx t H H2:=λb u n e=>s2 b u n (s b u n e)
theorem Sx.at(s:Sx t H H1)(T:Tb t H)(e:H a=some o)(ho:PlO o):H1 a=some o:=s _ _ (T.nep e ho) e
theorem Sx.own(s:Sx t H H1)(T:Tb t H)(e:H a=none):Sx t H (upd H1 a o):=λb u n g=>by
 rw[ak (λz=>by rw[z,e]at g;cases g)];exact s b u n g
theorem Tb.same(T:Tb t H)(s:Same H H1):Tb t H1:=TabOk.same T s
theorem Tb.upd(T:Tb t H)(e:H a=some o)(ho:PlO o):Tb t (L2.upd H a o2):=by
 rcases T with q|⟨c,q,r⟩
 ·exact .inl (by rw[ak (λz=>by rw[z,e]at q;cases q;exact ho)];exact q)
 ·exact .inr ⟨c,by rw[ak (λz=>by rw[z,e]at q;cases q;exact ho)];exact q,by rw[ak (λz=>by rw[z,e]at r;cases r;exact ho)];exact r⟩
end
def LtK(rss:List (List Nat))(k:Kd):Prop:=rss.length=k.len/\∀i j,i<k.len->j<k.len->lxt (rss.getD i []) (rss.getD j [])=k.lt i j
theorem lS{α:Type}{zs:List α}{f:α->List Nat}{g:α->List Int}{L:Nat->Nat->Bool}(hf:∀z∈zs,c9 (f z)=g z)(h:ue (zs.map g) L)(hi:i<zs.length)(hj:j<zs.length):lxt ((zs.map f).getD i []) ((zs.map f).getD j [])=L i j:=by
 have e1:(zs.map f).getD i []=f zs[i]:=by rw[EH,EN,EF hi];rfl
 have e2:(zs.map f).getD j []=f zs[j]:=by rw[EH,EN,EF hj];rfl
 rw[e1,e2];show HT.bH (c9 (f zs[i])) (c9 (f zs[j]))=L i j
 rw[hf _ (Fh hi),hf _ (Fh hj)];exact h i j _ _ (by rw[EN,EF hi];rfl) (by rw[EN,EF hj];rfl)
theorem Kd.rows.lt{k:Kd}{w by':Nat}(h:k.rows b rss w by')(hk:k.ok)(hb:2<=b)(hb2:b<=64):LtK rss k:=by
 refine⟨(h.good hk hb hb2).2.1,λi j hi hj=>?_⟩;cases k with
 | nu ns=>
  obtain⟨⟨zs,h,rfl⟩,_⟩:=h;have hl:=h.len;exact lS (λz _=>qS z b w) (qR h hb) (by have:i<ns.length:=hi;lia) (by have:j<ns.length:=hj;lia)
 | pa tb=>
  obtain⟨⟨zs,h,rfl⟩,_⟩:=h;have hl:=h.len;have hw:(bL tb).length=tb.length:=by unfold bL;simp
  exact lS (λz _=>qS z b w) (xR h hb hk.2.1) (by have:i<tb.length:=hi;lia) (by have:j<tb.length:=hj;lia)
 | te zs=>
  obtain⟨⟨hM,_,rfl⟩,_⟩:=h;exact lS (λz hz=>vo (hk.2 z hz)) (xS hk.2 hM) hi hj
theorem OrdR.ris{k:Kd}{os:List Nat}(h:OrdR rss os)(h1:LtK rss k):os.Pairwise λi j=>k.lt i j=true/\k.lt j i=false\/(k.lt i j=false/\k.lt j i=false/\i<j):=by
 have m:∀o∈os,o<k.len:=λo ho=>by rw[<-h1.1];exact FE.mp (h.1.mem_iff.mp ho)
 refine MQ (λ{i j} ha hb g=>?_) h.2;have a:=h1.2 i j (m _ ha) (m _ hb);have b:=h1.2 j i (m _ hb) (m _ ha);unfold Rk at g;simp only[IE]at g;rw[<-a,<-b];rcases g with g|⟨e,g⟩
 ·refine .inl ⟨g,?_⟩
  cases q:lxt (rss.getD j []) (rss.getD i [])with
  | false=>rfl
  | true=>exact(pS g q).elim
 ·rw[e,fT]
  exact .inr ⟨rfl,rfl,g⟩
noncomputable def Ky.nn:Ky->Int
 | .num n=>n
 | _=>0
noncomputable def Ky.pp:Ky->Int×Nat
 | .par n b=>(n,b.toNat)
 | _=>(0,1)
noncomputable def Ky.tt:Ky->Str
 | .txt w=>w
 | _=>""
noncomputable def jK (kd:Str) (ks:List Ky):Kd:=if kd = "number" then .nu (ks.map Ky.nn)else if kd = "part" then .pa (ks.map Ky.pp)else .te (ks.map Ky.tt)
theorem vt (ks:List Ky):jK "number" ks=.nu (ks.map Ky.nn):=if_pos rfl
theorem vv (ks:List Ky):jK "part" ks=.pa (ks.map Ky.pp):=by unfold jK;rw[if_neg (by decide +kernel),if_pos rfl]
theorem vw (ks:List Ky):jK "text" ks=.te (ks.map Ky.tt):=by unfold jK;rw[if_neg (by decide +kernel),if_neg (by decide +kernel)]
theorem fc:¬("number" : Str) = "part"/\¬("number" : Str) = "text"/\¬("part" : Str) = "number"/\¬("part" : Str) = "text"/\¬("text" : Str) = "number"/\¬("text" : Str) = "part":=by decide +kernel
theorem Ky.isN {k:Ky}(h:k.ok "number"):k=.num k.nn/\k.nn.natAbs<10 ^ 18:=by
 cases k with
 | num n=>exact⟨rfl,h.2⟩
 | par n b=>exact absurd h.1 fc.1
 | txt w=>exact absurd h.1 fc.2.1
theorem Ky.isP {k:Ky}(h:k.ok "part"):k=.par k.pp.1 k.pp.2/\hU k.pp.1 k.pp.2:=by
 cases k with
 | num n=>exact absurd h.1 fc.2.2.1
 | par n b=>
  have e:((b.toNat:Nat):Int)=b:=Hl (by have:=h.2.2.1;lia);exact⟨by show Ky.par n b=.par n (b.toNat:Nat);rw[e],by show hU n (b.toNat:Nat);rw[e];exact h.2⟩
 | txt w=>exact absurd h.1 fc.2.2.2.1
theorem Ky.isT {k:Ky}(h:k.ok "text"):k=.txt k.tt/\i8 k.tt:=by
 cases k with
 | num n=>exact absurd h.1 fc.2.2.2.2.1
 | par n b=>exact absurd h.1 fc.2.2.2.2.2
 | txt w=>exact⟨rfl,h.2⟩
def lT(kd:Str)(ks:List Ky):Prop:=(∀k∈ks,k.ok kd)/\ks.length<=60
theorem vx{H:Hp}{us:List V}{ks:List Ky}{f:Ky->V}(h:KsW H us ks)(g:∀k∈ks,∀v,k.at H v->v=f k):us=ks.map f:=by
 apply Ln (by rw[EE];exact h.1);intro i h1 h2;rw[EE]at h2;rw[List.getElem_map];exact g _ (Fh h2) _ (h.2 i _ _ (EF h1) (EF h2))
theorem x5{H:Hp}{us:List V}{ks:List Ky}(hkd:kd∈cQ)(h:KsW H us ks)(hk:lT kd ks):(jK kd ks).name=kd/\KAt H (jK kd ks) us/\(jK kd ks).ok/\(jK kd ks).len=ks.length:=by
 rcases gD hkd with rfl|rfl|rfl
 ·rw[vt]
  refine⟨rfl,?_,⟨by rw[EE];exact hk.2,λx hx=>?_⟩,EE ..⟩
  ·show us=(ks.map Ky.nn).map N7
   rw[Gd];refine vx h λk hm v hv=>?_
   rw[(Ky.isN (hk.1 k hm)).1]at hv;exact hv
  ·obtain⟨k,hm,rfl⟩:=E1.mp hx
   have:=(Ky.isN (hk.1 k hm)).2;lia
 ·rw[vv]
  have hq:∀(i:Nat) v k,us[i]? = some v->ks[i]? = some k->∃q,v=.ref q/\H q=some (.tup [.int k.pp.1,.int (k.pp.2:Nat)]):=λi v k a b=>by
   have z:=h.2 i v k a b;rw[(Ky.isP (hk.1 k (ES b))).1]at z;exact z
  refine⟨rfl,⟨us.map λv=>match v with | .ref q=>q|_=>0,?_,⟨by rw[EE,EE];exact h.1,λi q z a b=>?_⟩⟩,⟨by rw[EE];exact hk.2,λz hz=>?_,λz hz=>?_⟩,EE ..⟩
  ·apply Ln (by simp)
   intro i h1 h2;obtain⟨q,e,_⟩:=hq i us[i] (ks[i]'(by rw[<-h.1];exact h1)) (EF h1) (EF _);simp[e]
  ·rw[EN]at a b
   cases ea:us[i]? with
   | none=>rw[ea]at a;cases a
   | some v=>
    cases eb:ks[i]? with
    | none=>rw[eb]at b;cases b
    | some k=>
     obtain⟨q',rfl,t⟩:=hq i v k ea eb;rw[ea]at a;rw[eb]at b;cases a;cases b;exact t
  ·obtain⟨k,hm,rfl⟩:=E1.mp hz
   have:=(Ky.isP (hk.1 k hm)).2;exact⟨by have:=this.2.1;lia,by have:=this.2.2.1;lia⟩
  ·obtain⟨k,hm,rfl⟩:=E1.mp hz
   have:=(Ky.isP (hk.1 k hm)).2.1;lia
 ·rw[vw]
  refine⟨rfl,?_,⟨by rw[EE];exact hk.2,λx hx=>?_⟩,EE ..⟩
  ·show us=(ks.map Ky.tt).map N9
   rw[Gd];refine vx h λk hm v hv=>?_
   rw[(Ky.isT (hk.1 k hm)).1]at hv;exact hv
  ·obtain⟨k,hm,rfl⟩:=E1.mp hx
   exact(Ky.isT (hk.1 k hm)).2.2.2
def yK(k:Kd)(i j:Nat):Prop:=k.lt i j=true/\k.lt j i=false\/(k.lt i j=false/\k.lt j i=false/\i<j)
def KyOrd(kd:Str)(ks:List Ky)(os:List Nat):Prop:=os.Perm (EZ ks.length)/\os.Pairwise (yK (jK kd ks))
theorem KyOrd.one{ks:List Ky}{os os':List Nat}(h:KyOrd kd ks os)(g:KyOrd kd ks os'):os=os':=by
 refine iZ (λi j a b=>?_) (h.1.trans g.1.symm) h.2 g.2;rcases a with⟨a1,a2⟩|⟨a1,a2,a3⟩<;>rcases b with⟨b1,b2⟩|⟨b1,b2,b3⟩
 ·rw[a1]at b2;cases b2
 ·rw[a1]at b2;cases b2
 ·rw[a2]at b1;cases b1
 ·lia
theorem OrdR.ky{ks:List Ky}{os:List Nat}(h:OrdR rss os)(hl:LtK rss (jK kd ks))(hn:(jK kd ks).len=ks.length):KyOrd kd ks os:=
 ⟨by rw[<-hn,<-hl.1];exact h.1,h.ris hl⟩
theorem rq{n:Int}(h:n.natAbs<10 ^ 18):n.natAbs.log2<1920:=by
 by_cases z:n.natAbs=0
 ·rw[z];decide
 ·exact(JI z).mpr (GN h (by decide +kernel))
noncomputable def wrS (ws:List Str):Str:=if(FX " " ws).length=0 then "-" else FX " " ws
noncomputable def wrR (wss:List (List Str)):Str:=if(FX " ; " (wss.map wrS)).length=0 then "-" else FX " ; " (wss.map wrS)
def TxA(v:V)(w:Str):Prop:=(v=.str w\/∃n:Nat,v=.int (n:Nat)/\w=b9 n/\n<10 ^ 18)/\w.length<=18/\w.length≠0
theorem cI:Fy (toString ((n:Nat):Int))=b9 n:=MR n
theorem d9{ws:List Str}(h:∀w∈ws,w.length<=m)(hn:ws.length<=k)(s:Str)(hs:s.length<=3)(hm:m*k+k*3<=16777216):(ws.map (·.length)).sum+ws.length*s.length<=16777216/\(FX s ws).length<=sizeLine:=by
 have e1:=i9 h;have e2:m*ws.length<=m*k:=IB _ hn;have e3:ws.length*s.length<=k*3:=LW hn hs;refine⟨by lia,?_⟩;rw[Oj];show(F8 s ws).length<=_
 rw[FP];have e4:=Gx s ws;lia
def x6:Sp:=λvs H Q _=>∃(a:Addr) (us:List V) (ws:List Str),vs=[.ref a]/\(H a=some (.lst us)\/H a=some (.tup us))/\us.length=ws.length/\(∀(i:Nat) u w,us[i]? = some u->ws[i]? = some w->TxA u w)/\ws.length<=61/\∀H',Same H H'->Q (.str (wrS ws)) H'
theorem lU{us:List V}{ws:List Str}(hl:us.length=ws.length)(h:∀(i:Nat) u w,us[i]? = some u->ws[i]? = some w->TxA u w):∀w∈ws,w.length<=18/\w.length≠0:=λw hw=>by
 obtain⟨i,hi,rfl⟩:=F9 hw;exact(h i _ _ (EF ⋯) (EF hi)).2
theorem ed (T:Tx K mg t):FnOk P t.wd K mg t.bs CX0 1 (t.f 58) (t.d 58) ["things"] x6:=by
 refine okT (N:=["things"]) (T.fn 58 rfl) (λH Q hr nd h=>?_)
 ·obtain⟨a,us,ws,rfl,ta,hl,hu,hn,k⟩:=h
  have hwl:=lU hl hu;rcases ta with ta|ta
  ·refine⟨_,(ai (au (mX (K:=K) (fb (K:=K) aw (aj (bj (N:=["thing"]) (tgs:=["thing"]) (frs:=[]) (ix:=[]) ⟨rfl,by decide +kernel,rfl,by decide +kernel,rfl,rfl,EX,EX,rfl⟩ rfl (bx (K:=K) (qv 0)) (λ_ _ _ _=>(aN (i:=0))) (λ_ _ _ _=>(aQ (lD hr.gd hr.units) (by rfl) T.fk dH (aj (qv 0) aa)))) aa)) (iX aw)))),?_⟩
   dsimp only[st0];nofun;refine⟨rfl,?_⟩;nofun;refine⟨a,rfl,⟨_,N4 ta⟩,bN (a:=a) (vs:=us) (λi ys σ H'=>H=H'/\i<=us.length/\ys=(ws.take i).map N9/\∃v,σ=[v]) (ar ⋯) (λi ys σ H' h=>by rw[h.2.2.1];simp;lia) (λi ys σ H' h=>h.1▸N4 ta) ⟨rfl,EU _,rfl,_,rfl⟩ ?_ ?_⟩
   ·rintro i ys σ H1 x hx ⟨rfl,hi,rfl,v,rfl⟩
    have hil:=cE hx;have ew:=EF (l:=ws) (i:=i) ⋯;have hw:=hu i x _ hx ew;generalize ws[i]'⋯=w at ew hw;obtain⟨h1|⟨n,h1,h2,h3⟩,_⟩:=hw
    ·subst h1
     nofun;refine⟨_,_,rfl,.str w,?_⟩;nofun;exact Oe hil ⟨rfl,hil,by rw[E3,ew,EK];rfl,_,rfl⟩
    ·subst h1
     nofun;refine⟨_,_,rfl,.int ((n:Nat):Int) (GN (show((n:Nat):Int).natAbs<10 ^ 18 by lia) (by decide +kernel)),?_⟩;nofun;exact Oe hil ⟨rfl,hil,by rw[E3,ew,EK,h2,<-cI];rfl,_,rfl⟩
   ·rintro ys σ H1 ⟨rfl,hi,rfl,v,rfl⟩ r hr
    rw[ER ⋯];have k:=k _ ((Oc H).new (o:=.lst (ws.map N9)) hr);unfold wrS at k;obtain⟨f1,f2⟩:=d9 (λw hw=>(hwl w hw).1) hn " " (by decide +kernel) (by decide);nofun;refine⟨_,r,ws,rfl,rfl,N4 ae,f1,?_⟩;by_cases z:(FX " " ws).length=0
    ·rw[if_pos z]at k
     refine⟨false,⟨f2,by rw[z];rfl⟩,(λz=>nomatch z),λ_=>?_⟩;nofun;exact k
    ·rw[if_neg z]at k
     refine⟨true,⟨f2,by symm;simpa using z⟩,λ_=>?_,λz=>nomatch z⟩;nofun;exact k
  ·refine⟨_,(ai (au (mX (K:=K) (fb (K:=K) aw (aj (bj (N:=["thing"]) (tgs:=["thing"]) (frs:=[]) (ix:=[]) ⟨rfl,by decide +kernel,rfl,by decide +kernel,rfl,rfl,EX,EX,rfl⟩ rfl (gR (K:=K) (qv 0)) (λ_ _ _ _=>(aN (i:=0))) (λ_ _ _ _=>(aQ (lD hr.gd hr.units) (by rfl) T.fk dH (aj (qv 0) aa)))) aa)) (iX aw)))),?_⟩
   dsimp only[st0];nofun;refine⟨rfl,?_⟩;nofun;refine⟨a,rfl,⟨_,N6 ta⟩,dS (a:=a) (vs:=us) (λi ys σ H'=>H=H'/\i<=us.length/\ys=(ws.take i).map N9/\∃v,σ=[v]) (ar ⋯) (λi ys σ H' h=>by rw[h.2.2.1];simp;lia) (λi ys σ H' h=>h.1▸N6 ta) ⟨rfl,EU _,rfl,_,rfl⟩ ?_ ?_⟩
   ·rintro i ys σ H1 x hx ⟨rfl,hi,rfl,v,rfl⟩
    have hil:=cE hx;have ew:=EF (l:=ws) (i:=i) ⋯;have hw:=hu i x _ hx ew;generalize ws[i]'⋯=w at ew hw;obtain⟨h1|⟨n,h1,h2,h3⟩,_⟩:=hw
    ·subst h1
     nofun;refine⟨_,_,rfl,.str w,?_⟩;nofun;exact Oe hil ⟨rfl,hil,by rw[E3,ew,EK];rfl,_,rfl⟩
    ·subst h1
     nofun;refine⟨_,_,rfl,.int ((n:Nat):Int) (GN (show((n:Nat):Int).natAbs<10 ^ 18 by lia) (by decide +kernel)),?_⟩;nofun;exact Oe hil ⟨rfl,hil,by rw[E3,ew,EK,h2,<-cI];rfl,_,rfl⟩
   ·rintro ys σ H1 ⟨rfl,hi,rfl,v,rfl⟩ r hr
    rw[ER ⋯];have k:=k _ ((Oc H).new (o:=.lst (ws.map N9)) hr);unfold wrS at k;obtain⟨f1,f2⟩:=d9 (λw hw=>(hwl w hw).1) hn " " (by decide +kernel) (by decide);nofun;refine⟨_,r,ws,rfl,rfl,N4 ae,f1,?_⟩;by_cases z:(FX " " ws).length=0
    ·rw[if_pos z]at k
     refine⟨false,⟨f2,by rw[z];rfl⟩,(λz=>nomatch z),λ_=>?_⟩;nofun;exact k
    ·rw[if_neg z]at k
     refine⟨true,⟨f2,by symm;simpa using z⟩,λ_=>?_,λz=>nomatch z⟩;nofun;exact k
def TxAt(H:Hp)(p:Addr)(ws:List Str):Prop:=∃us,(H p=some (.lst us)\/H p=some (.tup us))/\us.length=ws.length/\(∀(i:Nat) u w,us[i]? = some u->ws[i]? = some w->TxA u w)/\ws.length<=61
theorem TxAt.same{H:Hp}{ws:List Str}(h:TxAt H p ws)(s:Same H H1):TxAt H1 p ws:=by
 obtain⟨us,e,r⟩:=h;exact⟨us,e.elim (λe=>.inl (s _ _ e)) (λe=>.inr (s _ _ e)),r⟩
theorem x8{H:Hp}{ws:List Str}(h:TxAt H p ws):(wrS ws).length<=1300:=by
 obtain⟨us,_,hl,hu,hn⟩:=h;have hw:=lU hl hu;unfold wrS;split
 ·decide +kernel
 ·show(F8 " " ws).length<=_
  rw[FP];have e4:=Gx " " ws;have e1:=i9 λw h=>(hw w h).1
  have e5:((" " : Str)).length=1:=by decide +kernel
  rw[e5]at e4;lia
def ux:Sp:=λvs H Q _=>∃(a:Addr) (ps:List Addr) (wss:List (List Str)),vs=[.ref a]/\H a=some (.lst (ps.map Oa))/\ps.length=wss.length/\(∀(i:Nat) p ws,ps[i]? = some p->wss[i]? = some ws->TxAt H p ws)/\wss.length<=200/\∀H',Same H H'->Q (.str (wrR wss)) H'
theorem fF (T:Tx K mg t):FnOk P t.wd K mg t.bs CX0 2 (t.f 59) (t.d 59) ["rows"] ux:=by
 refine okT (N:=["rows"]) (T.fn 59 rfl) (λH Q hr nd h=>?_)
 ·obtain⟨a,ps,wss,rfl,ta,hl,hp,hn,k⟩:=h
  refine⟨_,(ai (au (mX (K:=K) (fb (K:=K) aw (aj (bj (N:=["row"]) (tgs:=["row"]) (frs:=[]) (ix:=[]) ⟨rfl,by decide +kernel,rfl,by decide +kernel,rfl,rfl,EX,EX,rfl⟩ rfl (bx (K:=K) (qv 0)) (λ_ _ _ _=>(aN (i:=0))) (λ_ _ _ _=>(az (ed T) hr (T.fn 58 rfl) (aj (qv 0) aa)))) aa)) (iX aw)))),?_⟩;dsimp only[st0];nofun;refine⟨rfl,?_⟩;nofun;refine⟨a,rfl,⟨_,N4 ta⟩,bN (a:=a) (vs:=ps.map Oa) (λi ys σ H'=>Same H H'/\i<=ps.length/\ys=((wss.take i).map wrS).map N9/\∃v,σ=[v]) (by rw[EE];exact ar ⋯) (λi ys σ H' h=>by rw[h.2.2.1];simp;lia) (λi ys σ H' h=>N4 (h.1 _ _ ta)) ⟨Oc _,EU _,rfl,_,rfl⟩ ?_ ?_⟩
  ·rintro i ys σ H1 x hx ⟨s1,hi,rfl,v,rfl⟩
   obtain⟨p,rfl,ep,_,hi2⟩:=aX hx;have ew:=EF (l:=wss) (i:=i) ⋯;obtain⟨us,e,g1,g2,g3⟩:=(hp i p _ ep ew).same s1;generalize wss[i]'⋯=ws at ew g1 g2 g3;nofun;refine⟨p,us,ws,rfl,e,g1,g2,g3,λH2 s2=>?_⟩;exact Oe (by rw[EE];exact hi2) ⟨s1.trans s2,hi2,by rw[E3,ew,EK,EK];rfl,_,rfl⟩
  ·rintro ys σ H1 ⟨s1,hi,rfl,v,rfl⟩ r hr
   rw[EE,ER ⋯];have k:=k _ (s1.new (o:=.lst ((wss.map wrS).map N9)) hr);unfold wrR at k;obtain⟨f1,f2⟩:=d9 (m:=1300) (k:=200) (ws:=wss.map wrS) (λw hw=>by
    obtain⟨ws,hm,rfl⟩:=E1.mp hw;obtain⟨i,hi,rfl⟩:=F9 hm;exact x8 (hp i _ _ (EF ⋯) (EF hi))) (by rw[EE];exact hn) " ; " (by decide +kernel) (by decide)
   nofun;refine⟨_,r,_,rfl,rfl,N4 ae,f1,?_⟩;by_cases z:(FX " ; " (wss.map wrS)).length=0
   ·rw[if_pos z]at k
    refine⟨false,⟨f2,by rw[z];rfl⟩,(λz=>nomatch z),λ_=>?_⟩;nofun;exact k
   ·rw[if_neg z]at k
    refine⟨true,⟨f2,by symm;simpa using z⟩,λ_=>?_,λz=>nomatch z⟩;nofun;exact k
def AU:Sp:=λvs H Q _=>∃(a:Addr) (os:List Nat) (n:Nat),vs=[.ref a]/\(H a=some (.lst (NV os))\/False)/\Ord os n/\n<=60/\∀(l:Addr) (bs:List Nat) H',H l=none->Same H H'->H' l=some (.lst (NV bs))->Back os bs n->Q (.ref l) H'
theorem om (T:Tx K mg t):FnOk P t.wd K mg t.bs CX0 2 (t.f 15) (t.d 15) ["order"] AU:=by
 refine okT (N:=["order","back","at","place"]) (T.fn 15 rfl) (λH Q hr nd h=>?_)
 ·obtain⟨a,os,n,rfl,hta,hO,hn,k⟩:=h
  have hlen:=hO.len;rcases hta with ta|ta
  ·refine⟨_,(af (aY (c5 (cD (az (g9 T) hr (T.fn 11 rfl) (aj (qv 0) aa)))) (ai dy) aK)
   (af (aF (i:=1) (aC tH (aP (aj ah aa)) (aq (a8 (K:=K)) (by rfl) T.bA aR (aj (qv 0) aa))))
   (af (cf Fp rfl (kg (K:=K) rfl T.c4 (aj (qv 0) aa)) (c6 (K:=K) (n:=2) rfl (aE (aN (i:=2)) (aE (aN (i:=3)) bZ))) (ai (dR (qv 2) (qv 1) (qv 3))))
   (ai (au (qv 1)))))),?_⟩
   dsimp only[st0];nofun;refine⟨a,os,n,rfl,.inl ta,hO,hn,λH1 s1=>?_⟩;nofun;refine⟨aI (by simp),λq0 hq0=>?_⟩;obtain⟨H2,e9,s2,t0⟩:=nwS s1 hq0 (.lst [N7 0]);rw[e9];nofun;refine aJ (N4 (s2 _ _ ta)) ?_;rw[bt,hlen];refine⟨q0,_,_,rfl,rfl,t0,by lia,by lia,aI (by simp;lia),λb hb=>?_⟩;have efl:(E2 ((n:Nat):Int).toNat [N7 0]).flatten=NV (E2 n 0):=by
    show(E2 n [N7 0]).flatten=_
    rw[GP,NV,GW];rfl
   rw[efl];have hbn:H b=none:=s2.free hb;obtain⟨H3,e9,s3,tb⟩:=nwS s2 hb (.lst (NV (E2 n 0)));rw[e9];nofun;refine⟨a,rfl,⟨_,N4 (s3 _ _ ta)⟩,pH (n:=n) (λi σ H'=>Same H H'/\(∃bs:List Nat,H' b=some (.lst (NV bs))/\bs.length=n/\∀(j r:Nat),j<i->os[j]? = some r->bs[r]? = some j)/\∃v w,σ=[some (Oa a),some (Oa b),v,w]) ⟨s3,⟨_,tb,by simp,λj r h=>absurd h (Nat.not_lt_zero _)⟩,none,none,rfl⟩ ?_ ?_ ?_ ?_⟩
   ·rintro i σ H4 hi ⟨s4,_⟩
    obtain⟨r,e,_⟩:=hO.get hi;exact⟨_,_,N4 (s4 _ _ ta),gh e⟩
   ·rintro σ H4 ⟨s4,_⟩
    exact⟨_,N4 (s4 _ _ ta),by rw[bt];exact hlen⟩
   ·rintro i x σ H4 H5 hi ⟨s4,⟨bs,tb4,hbl,hbs⟩,v,w,rfl⟩ ⟨q,x1,rfl,hq,rfl,hx1⟩
    obtain⟨r,e,hrn⟩:=hO.get hi;have hx2:=hx1 _ (N4 (s4 _ _ ta));rw[gh e]at hx2;obtain rfl:=EY hx2;refine cu ae ?_;dsimp only[F7];obtain⟨H5,e9,s5,e8,_⟩:=nwD s4 hq (.tup [N7 (i:Nat),N7 (r:Nat)]);rw[e9];have tb5:=e8 _ _ tb4;nofun;refine gb tb5 (gg rfl (by rw[bt];lia)) ?_;rw[Aa];refine⟨s5.own hbn,⟨bs.set r i,ae,by simpa using hbl,λj r' hj e'=>?_⟩,_,_,rfl⟩;rw[G4];by_cases hrr:r=r'
    ·subst hrr
     rw[if_pos rfl,if_pos ⋯,hO.inj i j r e e']
    ·rw[if_neg hrr]
     have:j≠i:=λz=>hrr (by subst z;rw[e]at e';exact EY e')
     exact hbs j r' ⋯ e'
   ·rintro σ H4 ⟨s4,⟨bs,tb4,hbl,hbs⟩,v,w,rfl⟩
    nofun;exact k b bs H4 hbn s4 tb4 ⟨hbl,λi r e=>hbs i r (by have:=cE e;lia) e⟩
  ·exact ta.elim
def x9:Sp:=λvs H Q _=>∃(a:Addr) (os:List Nat),vs=[.ref a]/\(H a=some (.lst (NV os))\/False)/\os.length<=200/\(∀o∈os,o<os.length)/\
 ∀(l:Addr) (ps:List Addr) H',H l=none->(∀p∈ps,H p=none)->l∉ps->Same H H'->H' l=some (.lst (ps.map Oa))->LsAt H' ps (aB os)->Q (.ref l) H'
theorem ni (T:Tx K mg t):FnOk P t.wd K mg t.bs CX0 1 (t.f 16) (t.d 16) ["order"] x9:=by
 refine okT (N:=["order","met","told","first","ring","place"]) (T.fn 16 rfl) (λH Q hr nd h=>?_)
 ·obtain⟨a,os,rfl,hs,hlen,hob,k⟩:=h
  rcases hs with hs|hs
  ·refine⟨_,(af (aF (i:=1) (aC tH (aP (aj gP aa)) (aq (a8 (K:=K)) (by rfl) T.bA aR (aj (qv 0) aa))))
   (af (aF (i:=2) (aP aa))
   (af (cf Fp rfl (bK rfl T.bQ (aj (aq (a8 (K:=K)) (by rfl) T.bA aR (aj (qv 0) aa)) aa)) (aN (i:=3)) (af (aF (i:=4) (aP aa))
   (af (aF (i:=5) (qv 3))
   (af (eG Fp (c5 (cD (aH (aT (K:=K)) (qv 1) (qv 5)))) (af (dR gP (qv 1) (qv 5))
   (af (bf (aO (K:=K) (qv 4) (aj (qv 5) aa)))
   (ai (aF (i:=5) (aH (aT (K:=K)) (qv 0) (qv 5)))))))
   (ai (aY (av nO (aq (a8 (K:=K)) (by rfl) T.bA aR (aj (qv 4) aa)) ah (ax _)) (ai (bf (aO (K:=K) (qv 2) (aj (qv 4) aa)))) aK))))))
   (ai (au (qv 2)))))),?_⟩
   dsimp only[st0];nofun;refine⟨aI (by simp),λq0 hq0=>?_⟩;obtain⟨H0,e9,s0,t0⟩:=nwR hq0 (.lst [N8 false]);rw[e9];nofun;refine aJ (s0.seq (N4 hs)) ?_;rw[bt];refine⟨q0,_,_,rfl,rfl,t0,by lia,by lia,aI (by simp;lia),λm hm=>?_⟩;have efl:(E2 ((os.length:Nat):Int).toNat [N8 false]).flatten=(cA os 0).2.map N8:=by
    show(E2 os.length [N8 false]).flatten=(E2 os.length false).map N8
    rw[GW,GP]
   rw[efl];obtain⟨H1,e9,s1,tm⟩:=nwS s0 hm (.lst ((cA os 0).2.map N8));rw[e9];have hmn:H m=none:=s0.free hm;nofun;refine⟨aI (by simp),λl hl=>?_⟩;have hln:H l=none:=s1.free hl;have hml:m≠l:=ao tm hl;obtain⟨H2,e9,s2,e8,(tl:H2 l=some (.lst (([]:List Addr).map Oa)))⟩:=nwD s1 hl (.lst []);rw[e9];have tm2:=e8 _ _ tm;nofun;refine aJ (s2.seq (N4 hs)) ?_;rw[bt];nofun;refine⟨os.length,rfl,by lia,by lia,cy (λi σ H'=>Same H H'/\(∃ps:List Addr,H' m=some (.lst ((cA os i).2.map N8))/\H' l=some (.lst (ps.map Oa))/\LsAt H' ps (cA os i).1/\∀p∈ps,H p=none/\p≠m/\p≠l)/\∃v1 v2 v3,σ=[some (Oa a),some (Oa m),some (Oa l),v1,v2,v3]) ⟨s2,⟨[],tm2,tl,LsAt.nil,λp h=>nomatch h⟩,_,_,_,rfl⟩ ?_ ?_⟩
   ·rintro i σ H3 hi ⟨s3,⟨ps,tm3,tl3,hL,hfr⟩,v1,v2,v3,rfl⟩
    have hi:i<os.length:=by lia
    nofun;refine⟨aI (by simp),λg hg=>?_⟩;have hgn:H g=none:=s3.free hg;have hgm:m≠g:=ao tm3 hg;have hgl:l≠g:=ao tl3 hg;have hgp:∀p∈ps,p≠g:=λp hp e=>by
     obtain⟨ns,_,e2⟩:=hL.some hp;rw[e,hg]at e2;cases e2
    have s4:=s3.new (o:=.lst []) hg;have tg:(upd H3 g (.lst [])) g=some (.lst (NV [])):=ae;have tm4:(upd H3 g (.lst [])) m=some (.lst ((cA os i).2.map N8)):=by rw[ak hgm];exact tm3
    have tl4:(upd H3 g (.lst [])) l=some (.lst (ps.map Oa)):=by rw[ak hgl];exact tl3
    have L4:=hL.same ((Oc H3).new (o:=.lst []) hg);generalize upd H3 g (.lst [])=H4 at s4 tg tm4 tl4 L4;rw[Iv];nofun;refine⟨λc σ H5=>∃(met:List Bool) (rg:List Nat) (pl:Nat),Same H H5/\H5 m=some (.lst (met.map N8))/\H5 l=some (.lst (ps.map Oa))/\LsAt H5 ps (cA os i).1/\H5 g=some (.lst (NV rg))/\(∃v1,σ=[some (Oa a),some (Oa m),some (Oa l),v1,some (Oa g),some (N7 pl)])/\pl<os.length/\met.length=os.length/\few met<c/\rg++(cg os c met pl).1=(cg os (os.length+1) (cA os i).2 i).1/\(cg os c met pl).2=(cg os (os.length+1) (cA os i).2 i).2,
     ⟨os.length+1,_,[],i,s4,tm4,tl4,L4,tg,⟨_,rfl⟩,hi,eJ os i,by have:=uZ (cA os i).2;rw[eJ]at this;lia,rfl,rfl⟩,?_⟩
    rintro c σ H5 ⟨met,rg,pl,s5,tm5,tl5,L5,tg5,⟨v1,rfl⟩,hpl,hmt,hfc,hw1,hw2⟩;have hme:met[pl]? = some met[pl]:=by simp[hmt,hpl]
    have hat:atI (met.map N8) (pl:Int)=some (N8 met[pl]):=bc (by rw[EN,hme];rfl);nofun;refine bq (N4 tm5) hat ?_;refine⟨_,rfl,?_⟩;cases hb:met[pl]with
    | false=>
     rw[hb]at hme;refine⟨_,λ_ _ z=>z,?_⟩;have ho:os[pl]? = some os[pl]:=by simp[hpl]
     obtain⟨c',rfl⟩:∃c',c=c'+1:=⟨c - 1,by lia⟩
     rw[gU hme ho]at hw1 hw2;have hfs:=pL hme;nofun;refine gb tm5 (gg rfl (by rw[EE,hmt];exact hpl)) ?_;rw[<-Kr];have s6:=s5.own (o:=.lst ((met.set pl true).map N8)) hmn;have tm6:(upd H5 m (.lst ((met.set pl true).map N8))) m=some (.lst ((met.set pl true).map N8)):=ae;have tl6:(upd H5 m (.lst ((met.set pl true).map N8))) l=some (.lst (ps.map Oa)):=by rw[ak (E7 hml)];exact tl5
     have tg6:(upd H5 m (.lst ((met.set pl true).map N8))) g=some (.lst (NV rg)):=by rw[ak (E7 hgm)];exact tg5
     have L6:=L5.upd (x:=m) (o:=.lst ((met.set pl true).map N8)) λp hp=>(hfr p hp).2.1
     generalize upd H5 m (.lst ((met.set pl true).map N8))=H6 at s6 tm6 tl6 tg6 L6;nofun;refine⟨aZ tg6,?_⟩;nofun;have hrl:rg.length<=os.length+1:=by
      have h9:=(gw (os:=os) (os.length+1) (cA os i).2 i).2;have h8:=congrArg GX hw1;rw[Fd]at h8;lia
     refine aM tg6 (by rw[bt];exact ar ⋯) ?_;rw[fR];have s7:=s6.own (o:=.lst (NV (rg++[pl]))) hgn;have tg7:(upd H6 g (.lst (NV (rg++[pl])))) g=some (.lst (NV (rg++[pl]))):=ae;have tm7:(upd H6 g (.lst (NV (rg++[pl])))) m=some (.lst ((met.set pl true).map N8)):=by rw[ak hgm];exact tm6
     have tl7:(upd H6 g (.lst (NV (rg++[pl])))) l=some (.lst (ps.map Oa)):=by rw[ak hgl];exact tl6
     have L7:=L6.upd (x:=g) (o:=.lst (NV (rg++[pl]))) hgp;generalize upd H6 g (.lst (NV (rg++[pl])))=H7 at s7 tm7 tl7 tg7 L7;nofun;refine bq (s7.seq (N4 hs)) (jq rfl ho) ?_;nofun;exact⟨c',by lia,met.set pl true,rg++[pl],os[pl],s7,tm7,tl7,L7,tg7,⟨_,rfl⟩,hob _ (Fh hpl),by simpa using hmt,by lia,by rw[<-hw1,HQ];rfl,hw2⟩
    | true=>
     rw[hb]at hme;rw[gT hme ⋯]at hw1 hw2;rw[Gj]at hw1;nofun;refine aJ (N4 tg5) ?_;rw[bt];nofun;have hup:=cJ os i;unfold xb at hup;simp only[<-hw1,<-hw2]at hup;refine br (λg1=>?_) (λg1=>?_)
     ·rw[if_pos ⋯]at hup
      nofun;refine⟨aZ tl5,?_⟩;nofun;have hup1:=(c7 os i).1;refine aM tl5 (by rw[EE,L5.1];exact ar ⋯) ?_;refine⟨s5.own hln,⟨ps++[g],?_,by rw[ae,EK];rfl,?_,λp hp=>?_⟩,_,_,_,rfl⟩
      ·rw[ak hml,hup];exact tm5
      ·rw[hup]
       exact(L5.upd λp hp=>(hfr p hp).2.2).snoc (by rw[ak (E7 hgl)];exact tg5)
      ·rcases Fq.mp hp with h|h
       ·exact hfr p h
       ·rw[Fu.mp h]
        exact⟨hgn,E7 hgm,E7 hgl⟩
     ·rw[if_neg ⋯]at hup
      nofun;refine⟨s5,⟨ps,by rw[hup];exact tm5,tl5,by rw[hup];exact L5,hfr⟩,_,_,_,rfl⟩
   ·rintro σ H3 ⟨s3,⟨ps,tm3,tl3,hL,hfr⟩,v1,v2,v3,rfl⟩
    nofun;exact k l ps H3 hln (λp hp=>(hfr p hp).1) (λhp=>(hfr l hp).2.2 rfl) s3 tl3 hL
  ·exact hs.elim
def C7:Sp:=λvs H Q _=>∃(a:Addr) (r:List Nat),vs=[.ref a]/\H a=some (.lst (NV r))/\1<r.length/\r.length<=201/\∀(l:Addr) (ps:List Addr) H',H l=none->Same H H'->H' l=some (.lst (ps.map Oa))->MvsAt H' ps (mvR r)->Q (.ref l) H'
theorem rA{H:Hp}{ms:List RMv}(h:MvsAt H ps ms)(e:H l=some (.lst xs)):MvsAt (upd H l (.lst ys)) ps ms:=h.tk (TupK.upd e λxs z=>by cases z)
theorem rB(h:0<r.length):NV r=NV (r.take (r.length - 1))++[N7 ((r.getD (r.length - 1) 0:Nat):Int)]:=by
 rw[fR];congr 1;have e:r.take (r.length - 1+1)=r:=ER ⋯;conv=>lhs;rw[<-e]
 rw[E3,dC (show r.length - 1<r.length by lia)];rfl
theorem gn (T:Tx K mg t):FnOk P t.wd K mg t.bs CX0 1 (t.f 27) (t.d 27) ["ring"] C7:=by
 refine okT (N:=["ring","told","at"]) (T.fn 27 rfl) (λH Q hr nd h=>?_)
 ·obtain⟨a,r,rfl,ta,h1,h2,k⟩:=h
  refine⟨_,(af (aF (i:=1) (aP (aj (bP (aj aw (aj (aH (aT (K:=K)) (qv 0) ah) aa))) aa)))
   (af (cf Fp rfl (bK rfl T.bQ (aj (aC fO (aq (a8 (K:=K)) (by rfl) T.bA aR (aj (qv 0) aa)) ah) aa)) (aN (i:=2)) (ai (bf (aO (K:=K) (qv 1) (aj (bP (aj aw (aj (aH (aT (K:=K)) (qv 0) (aC eV (qv 2) ah)) (aj (aH (aT (K:=K)) (qv 0) (qv 2)) aa)))) aa)))))
   (af (bf (aO (K:=K) (qv 1) (aj (bP (aj aw (aj (aH (aT (K:=K)) (qv 0) (j9 kb ah)) aa))) aa)))
   (ai (au (qv 1)))))),?_⟩
  dsimp only[st0];nofun;refine bq (N4 ta) (jq rfl (dC (show 0<r.length by lia))) ?_;nofun;refine⟨aI (by simp),λt0 ht0=>?_⟩;have s1:=(Oc H).new (o:=.tup (Of (r.getD 0 0)).vs) ht0;have tt0:(upd H t0 (.tup (Of (r.getD 0 0)).vs)) t0=some (.tup (Of (r.getD 0 0)).vs):=ae;generalize eH1:upd H t0 (.tup (Of (r.getD 0 0)).vs)=H1 at s1 tt0;have eH1':upd H t0 (.tup [N9 "take",N7 (r.getD 0 0:Nat)])=H1:=eH1;rw[eH1'];nofun;refine⟨aI (by simp),λl hl=>?_⟩;have hln:H l=none:=s1.free hl;have s2:=s1.new (o:=.lst [Oa t0]) hl;have tl2:(upd H1 l (.lst [Oa t0])) l=some (.lst (([t0]:List Addr).map Oa)):=ae;have M2:MvsAt (upd H1 l (.lst [Oa t0])) [t0] (Of (r.getD 0 0)::mvI r 0):=MvsAt.snoc (ps:=[]) (ms:=[]) MvsAt.nil (((Oc H1).new (o:=.lst [Oa t0]) hl) _ _ tt0);generalize upd H1 l (.lst [Oa t0])=H2 at s2 tl2 M2;nofun;refine aJ (N4 (s2 _ _ ta)) ?_;rw[bt];nofun;have em:((r.length:Nat):Int) - 1=((r.length - 1:Nat):Int):=by lia
  rw[em];refine⟨((r.length - 1:Nat):Int),rfl,by lia,by lia,cy (λi σ H'=>Same H H'/\(∃ps:List Addr,H' l=some (.lst (ps.map Oa))/\MvsAt H' ps (Of (r.getD 0 0)::mvI r i))/\∃v,σ=[some (Oa a),some (Oa l),v]) ⟨s2,⟨[t0],tl2,M2⟩,_,rfl⟩ ?_ ?_⟩
  ·rintro i σ H3 hi ⟨s3,⟨ps,tl3,M3⟩,v,rfl⟩
   have hpl:ps.length=i+1:=by rw[M3.1];simp[mvI]
   rw[Iv];nofun;refine⟨aZ tl3,?_⟩;nofun;refine bq (N4 (s3 _ _ ta)) (jq rfl (dC (show i+1<r.length by lia))) ?_;nofun;refine bq (N4 (s3 _ _ ta)) (jq rfl (dC (show i<r.length by lia))) ?_;nofun;refine⟨aI (by simp),λq hq=>?_⟩;have s4:=s3.new (o:=.tup (RMv.move (r.getD (i+1) 0) (r.getD i 0)).vs) hq;have s34:=(Oc H3).new (o:=.tup (RMv.move (r.getD (i+1) 0) (r.getD i 0)).vs) hq;have tq:(upd H3 q (.tup (RMv.move (r.getD (i+1) 0) (r.getD i 0)).vs)) q=some (.tup (RMv.move (r.getD (i+1) 0) (r.getD i 0)).vs):=ae;have tl4:=s34 _ _ tl3;have M4:=M3.tk (TupK.of s34);generalize eH4:upd H3 q (.tup (RMv.move (r.getD (i+1) 0) (r.getD i 0)).vs)=H4 at s4 s34 tq tl4 M4;have eH4':upd H3 q (.tup [N9 "move",N7 (r.getD (i+1) 0:Nat),N7 (r.getD i 0:Nat)])=H4:=eH4;rw[eH4'];nofun;refine aM tl4 (by rw[EE,hpl];exact ar ⋯) ?_;refine⟨s4.own hln,⟨ps++[q],by rw[ae,EK];rfl,?_⟩,_,rfl⟩;rw[mQ,<-Jp];exact rA (M4.snoc tq) tl4
  ·rintro σ H3 ⟨s3,⟨ps,tl3,M3⟩,v,rfl⟩
   have hpl:ps.length=r.length:=by rw[M3.1];simp[mvI];lia
   nofun;refine⟨aZ tl3,?_⟩;nofun;refine bq (N4 (s3 _ _ ta)) (by rw[rB (show 0<r.length by lia)];exact gr _ _) ?_;nofun;refine⟨aI (by simp),λq hq=>?_⟩;have s4:=s3.new (o:=.tup (Og (r.getD (r.length - 1) 0)).vs) hq;have s34:=(Oc H3).new (o:=.tup (Og (r.getD (r.length - 1) 0)).vs) hq;have tq:(upd H3 q (.tup (Og (r.getD (r.length - 1) 0)).vs)) q=some (.tup (Og (r.getD (r.length - 1) 0)).vs):=ae;have tl4:=s34 _ _ tl3;have M4:=M3.tk (TupK.of s34);generalize eH4:upd H3 q (.tup (Og (r.getD (r.length - 1) 0)).vs)=H4 at s4 s34 tq tl4 M4;have eH4':upd H3 q (.tup [N9 "lay",N7 (r.getD (r.length - 1) 0:Nat)])=H4:=eH4;rw[eH4'];nofun;refine aM tl4 (by rw[EE,hpl];exact ar ⋯) ?_;nofun;refine k l (ps++[q]) _ hln (s4.own hln) (by rw[ae,EK];rfl) ?_;have e:mvR r=(Of (r.getD 0 0)::mvI r (r.length - 1))++[Og (r.getD (r.length - 1) 0)]:=rfl;rw[e];exact rA (M4.snoc tq) tl4
structure RwK (C:Addr) (H:Hp) (w ta pa:Addr) (ps:List Addr) (us:List V) (hv:V) (ms:List RMv) (d:Nat):Prop where
 ob:∃dx,H w=some (.ins C dx (rwF ta hv pa (d:Nat)))
 tt:H ta=some (.lst us)
 tp:H pa=some (.lst (ps.map Oa))
 mv:MvsAt H ps ms
 n1:ta≠pa
section
variable{C:Addr}{H H1:Hp}{w ta pa:Addr}{ps:List Addr}{us:List V}{hv:V}{ms:List RMv}{d:Nat}
theorem RwK.wt(h:RwK C H w ta pa ps us hv ms d):w≠ta:=by
 obtain⟨dx,e⟩:=h.ob;exact fm e h.tt (by intro z;cases z)
theorem RwK.wp(h:RwK C H w ta pa ps us hv ms d):w≠pa:=by
 obtain⟨dx,e⟩:=h.ob;exact fm e h.tp (by intro z;cases z)
theorem RwK.tkp(h:RwK C H w ta pa ps us hv ms d)(k:KpR w ta H H1):TupK H H1:=λb xs e=>by
 obtain⟨dx,e2⟩:=h.ob;exact k _ _ e (fm e e2 (by intro z;cases z)) (fm e h.tt (by intro z;cases z))
theorem RwK.setT(h:RwK C H w ta pa ps us hv ms d){vs:List V}:RwK C (upd H ta (.lst vs)) w ta pa ps vs hv ms d:=by
 obtain⟨dx,e⟩:=h.ob;exact⟨⟨dx,by rw[ak h.wt];exact e⟩,ae,by rw[ak (E7 h.n1)];exact h.tp,h.mv.tk (TupK.upd h.tt (λxs z=>by cases z)),h.n1⟩
theorem RwK.setW(h:RwK C H w ta pa ps us hv ms d):RwK C (upd H w (.ins C dx (rwF ta v pa (n:Nat)))) w ta pa ps us v ms n:=by
 obtain⟨dx',e⟩:=h.ob;exact⟨⟨dx,ae⟩,by rw[ak (E7 h.wt)];exact h.tt,by rw[ak (E7 h.wp)];exact h.tp,h.mv.tk (TupK.upd e (λxs z=>by cases z)),h.n1⟩
end
def AV(C:Addr):Sp:=λvs H Q _=>∃(w ta pa:Addr) (ps:List Addr) (us:List V) (hv:V) (ms:List RMv) (d:Nat),vs=[.ref w]/\RwK C H w ta pa ps us hv ms d/\d<=ms.length/\Q (.int ((ms.length - d:Nat):Int)) H
theorem dI (T:Tx K mg t):FnOk P t.wd K mg t.bs CX0 1 t.cW t.cT ["self"] (AV t.ag):=by
 have nd:=sc_RingWalk_left.nd;refine T.iq.okQ sc_RingWalk_left (λvs H Q E h=>?_) (λcdv A outer s H vs Q E hr h=>?_)
 ·obtain⟨w,ta,pa,ps,us,hv,ms,d,rfl,_⟩:=h
  rfl
 ·obtain⟨w,ta,pa,ps,us,hv,ms,d,rfl,W,hd,k⟩:=h
  obtain⟨dx,ob⟩:=W.ob;refine⟨_,(ai (au (aC fO (aq (a8 (K:=K)) (by rfl) T.bA aR (aj (cF (K:=K) (qv 0)) aa)) (cF (K:=K) (qv 0))))),?_⟩;rw[show L2.dq ["self"] [Oa w]=[some (Oa w)]from rfl];nofun;refine⟨w,t.ag,dx,_,_,rfl,ob,T.aA,T.bD,g8 _ _ _ _,?_⟩;nofun;refine aJ (N4 W.tp) ?_;rw[EE,W.mv.1];nofun;refine⟨w,t.ag,dx,_,_,rfl,ob,T.aA,T.bg,eZ _ _ _ _,?_⟩;nofun;have e:((ms.length - d:Nat):Int)=((ms.length:Nat):Int) - ((d:Nat):Int):=by lia
  rw[e]at k;exact k
def ya(C:Addr):Sp:=λvs H Q _=>∃(w ta pa:Addr) (ps:List Addr) (us:List V) (hv:V) (ms:List RMv) (d:Nat),vs=[.ref w]/\RwK C H w ta pa ps us hv ms d/\(∀m∈ms,m.lt us.length)/\d<=ms.length/\
 (d=ms.length->Q .non H)/\∀(m:RMv) (p:Addr) H',ms[d]? = some m->ps[d]? = some p->RwK C H' w ta pa ps (RMv.on (us,hv) m).1 (RMv.on (us,hv) m).2 ms (d+1)->KpR w ta H H'->H' p=some (.tup m.vs)->Q (.ref p) H'
theorem gp (T:Tx K mg t):FnOk P t.wd K mg t.bs CX0 2 t.cX t.cU ["self"] (ya t.ag):=by
 have nd:=sc_RingWalk_step.nd;refine T.ir.okQ sc_RingWalk_step (λvs H Q E h=>?_) (λcdv A outer s H vs Q E hr h=>?_)
 ·obtain⟨w,ta,pa,ps,us,hv,ms,d,rfl,_⟩:=h
  rfl
 ·obtain⟨w,ta,pa,ps,us,hv,ms,d,rfl,W,hlt,hd,k1,k2⟩:=h
  obtain⟨dx,ob⟩:=W.ob;refine⟨_,(af (aY (av gj (jy (qv 0) T.aA T.ef (dI T) (hr.mono (by decide)) T.eh fM ) ah (ax _)) (ai (au bJ)) aK)
   (af (aF (i:=1) (aH (aT (K:=K)) (cF (K:=K) (qv 0)) (cF (K:=K) (qv 0))))
   (af (qi (K:=K) (qv 0) ah uW)
   (af (aY (av gj (aH (eW (K:=K)) (qv 1) ah) aw (ax _)) (af (dW (K:=K) (qv 0) (aH (aT (K:=K)) (cF (K:=K) (qv 0)) (aH (eW (K:=K)) (qv 1) ah)))
   (ai (dR bJ (cF (K:=K) (qv 0)) (aH (eW (K:=K)) (qv 1) ah)))) (ai (aY (av gj (aH (eW (K:=K)) (qv 1) ah) aw (ax _)) (af (dR (aH (aT (K:=K)) (cF (K:=K) (qv 0)) (aH (eW (K:=K)) (qv 1) ah)) (cF (K:=K) (qv 0)) (aH (eW (K:=K)) (qv 1) ah))
   (ai (dR bJ (cF (K:=K) (qv 0)) (aH (eW (K:=K)) (qv 1) ah)))) (af (dR (cF (K:=K) (qv 0)) (cF (K:=K) (qv 0)) (aH (eW (K:=K)) (qv 1) ah))
   (ai (dW (K:=K) (qv 0) bJ))))))
   (ai (au (qv 1))))))),?_⟩
  rw[show L2.dq ["self","move"] [Oa w]=[some (Oa w),none]from rfl];nofun;refine⟨w,dx,_,rfl,ob,qC _ _ _ _ (by decide +kernel) (by decide +kernel) (by decide +kernel) (by decide +kernel),?_⟩;nofun;refine⟨w,ta,pa,ps,us,hv,ms,d,rfl,W,hd,?_⟩;nofun;rcases FI d ms.length with hlt2|hge
  ·have em:ms[d]? = some ms[d]:=EF hlt2
   have hpd:d<ps.length:=by rw[W.mv.1];exact hlt2
   have ep:ps[d]? = some ps[d]:=EF hpd;have hml:=hlt _ (Fh hlt2);have tm:=W.mv.2 d _ _ ep em;generalize ms[d]=m at em hml tm;generalize ps[d]=p at ep tm;have k3:=k2 m p;rw[decide_eq_false (show ¬N7 ((ms.length - d:Nat):Int)=N7 0 from λz=>by have:=N7.inj z;lia)];nofun;refine⟨w,t.ag,dx,_,_,rfl,ob,T.aA,T.bD,g8 _ _ _ _,?_⟩;nofun;refine⟨w,t.ag,dx,_,_,rfl,ob,T.aA,T.bg,eZ _ _ _ _,?_⟩;nofun;refine bq (N4 W.tp) (v:=Oa p) (bc (by rw[EN,ep];rfl)) ?_;nofun;refine⟨w,t.ag,dx,_,_,rfl,ob,T.aA,T.bg,eZ _ _ _ _,?_⟩;nofun;refine⟨dx,_,ob,by show 4<1000;decide,?_⟩;have e1:((d:Nat):Int)+1=((d+1:Nat):Int):=by lia
   rw[e1,t6];have W1:=W.setW (dx:=dx) (v:=hv) (n:=d+1);have K1:KpR w ta H _:=KpR.upW (o:=.ins t.ag dx (rwF ta hv pa ((d+1:Nat):Int)));have tm1:=W.tkp K1 _ _ tm;generalize upd H w (.ins t.ag dx (rwF ta hv pa ((d+1:Nat):Int)))=H1 at W1 K1 tm1;obtain⟨dx1,ob1⟩:=W1.ob;cases m with
   | take x=>
    have hx:x<us.length:=hml;have hux:us[x]? = some (us.getD x .non):=by rw[EH,EF hx];rfl
    have tm1':H1 p=some (.tup [N9 "take",N7 (x:Nat)]):=tm1;nofun;rw[decide_eq_true rfl];nofun;refine⟨w,t.ag,dx1,_,_,rfl,ob1,T.aA,T.aD,bO _ _ _ _,?_⟩;nofun;refine bq (N4 W1.tt) (v:=us.getD x .non) (bc hux) ?_;nofun;refine⟨w,t.ag,dx1,_,rfl,ob1,T.aA,T.bh,by show 4<1000;decide,?_⟩;rw[mR];have W2:=W1.setW (dx:=dx1) (v:=us.getD x .non) (n:=d+1);have K2:=K1.trans (KpR.upW (o:=.ins t.ag dx1 (rwF ta (us.getD x .non) pa ((d+1:Nat):Int))));have tm2:=W.tkp K2 _ _ tm;generalize upd H1 w (.ins t.ag dx1 (rwF ta (us.getD x .non) pa ((d+1:Nat):Int)))=H2 at W2 K2 tm2;obtain⟨dx2,ob2⟩:=W2.ob;have tm2':H2 p=some (.tup [N9 "take",N7 (x:Nat)]):=tm2;nofun;refine⟨w,t.ag,dx2,_,_,rfl,ob2,T.aA,T.aD,bO _ _ _ _,?_⟩;nofun;refine gb W2.tt (j:=x) (gg rfl hx) ?_;have W3:=W2.setT (vs:=us.set x .non);have K3:=K2.trans (KpR.upT (o:=.lst (us.set x .non)));have tm3:=W.tkp K3 _ _ tm;generalize upd H2 ta (.lst (us.set x .non))=H3 at W3 K3 tm3;nofun;exact k3 _ em ep W3 K3 tm3
   | move x y=>
    obtain⟨hx,hy⟩:x<us.length/\y<us.length:=hml;have hux:us[x]? = some (us.getD x .non):=by rw[EH,EF hx];rfl
    have tm1':H1 p=some (.tup [N9 "move",N7 (x:Nat),N7 (y:Nat)]):=tm1;nofun;rw[decide_eq_false (show ¬N9 "move" = N9 "take" from λz=>absurd (N9.inj z) (by decide +kernel))];nofun;rw[decide_eq_true rfl];nofun;refine⟨w,t.ag,dx1,_,_,rfl,ob1,T.aA,T.aD,bO _ _ _ _,?_⟩;nofun;refine bq (N4 W1.tt) (v:=us.getD x .non) (bc hux) ?_;nofun;refine⟨w,t.ag,dx1,_,_,rfl,ob1,T.aA,T.aD,bO _ _ _ _,?_⟩;nofun;refine gb W1.tt (j:=y) (gg rfl hy) ?_;have W2:=W1.setT (vs:=us.set y (us.getD x .non));have K2:=K1.trans (KpR.upT (o:=.lst (us.set y (us.getD x .non))));have tm2:=W.tkp K2 _ _ tm;generalize upd H1 ta (.lst (us.set y (us.getD x .non)))=H2 at W2 K2 tm2;obtain⟨dx2,ob2⟩:=W2.ob;have tm2':H2 p=some (.tup [N9 "move",N7 (x:Nat),N7 (y:Nat)]):=tm2;nofun;refine⟨w,t.ag,dx2,_,_,rfl,ob2,T.aA,T.aD,bO _ _ _ _,?_⟩;nofun;refine gb W2.tt (j:=x) (gg rfl (by rw[Ij];exact hx)) ?_;have W3:=W2.setT (vs:=(us.set y (us.getD x .non)).set x .non);have K3:=K2.trans (KpR.upT (o:=.lst ((us.set y (us.getD x .non)).set x .non)));have tm3:=W.tkp K3 _ _ tm;generalize upd H2 ta (.lst ((us.set y (us.getD x .non)).set x .non))=H3 at W3 K3 tm3;nofun;exact k3 _ em ep W3 K3 tm3
   | lay x=>
    have hx:x<us.length:=hml;have tm1':H1 p=some (.tup [N9 "lay",N7 (x:Nat)]):=tm1;nofun;rw[decide_eq_false (show ¬N9 "lay" = N9 "take" from λz=>absurd (N9.inj z) (by decide +kernel))];nofun;rw[decide_eq_false (show ¬N9 "lay" = N9 "move" from λz=>absurd (N9.inj z) (by decide +kernel))];nofun;refine⟨w,t.ag,dx1,_,_,rfl,ob1,T.aA,T.bh,lG _ _ _ _,?_⟩;nofun;refine⟨w,t.ag,dx1,_,_,rfl,ob1,T.aA,T.aD,bO _ _ _ _,?_⟩;nofun;refine gb W1.tt (j:=x) (gg rfl hx) ?_;have W2:=W1.setT (vs:=us.set x hv);have K2:=K1.trans (KpR.upT (o:=.lst (us.set x hv)));generalize upd H1 ta (.lst (us.set x hv))=H2 at W2 K2;obtain⟨dx2,ob2⟩:=W2.ob;nofun;refine⟨w,t.ag,dx2,_,rfl,ob2,T.aA,T.bh,by show 4<1000;decide,?_⟩;rw[mR];have W3:=W2.setW (dx:=dx2) (v:=.non) (n:=d+1);have K3:=K2.trans (KpR.upW (o:=.ins t.ag dx2 (rwF ta .non pa ((d+1:Nat):Int))));have tm3:=W.tkp K3 _ _ tm;generalize upd H2 w (.ins t.ag dx2 (rwF ta .non pa ((d+1:Nat):Int)))=H3 at W3 K3 tm3;nofun;exact k3 _ em ep W3 K3 tm3
  ·have hde:d=ms.length:=by lia
   rw[decide_eq_true (show N7 ((ms.length - d:Nat):Int)=N7 0 from by rw[hde,G7];rfl)];nofun;exact k1 hde
theorem jL(rgs:List (List Nat))(i:Nat):(mvs (rgs.take i)).length<=(mvs rgs).length:=by
 have e:mvs rgs=mvs (rgs.take i)++mvs (rgs.drop i):=by
  unfold mvs;rw[<-Kc,<-EK,JS]
 rw[e,Fd];lia
theorem gE(h:rgs[i]? = some r):mvs (rgs.take (i+1))=mvs (rgs.take i)++mvR r:=by
 unfold mvs;rw[E3,h,EK,Kc];show _++(mvR r++[])=_
 rw[Gj]
theorem yb{H:Hp}{ms ns:List RMv}(a:MvsAt H ps ms)(b:MvsAt H qs ns):MvsAt H (ps++qs) (ms++ns):=by
 refine⟨by rw[Fd,Fd,a.1,b.1],λi p m x y=>?_⟩;rcases FI i ps.length with h|h
 ·rw[E6 h]at x
  rw[E6 (by rw[<-a.1];exact h)]at y;exact a.2 i p m x y
 ·rw[E8 h]at x
  rw[E8 (by rw[<-a.1];exact h),<-a.1]at y;exact b.2 _ p m x y
def yc(C:Addr):Sp:=λvs H Q _=>∃(w dx a c:Addr) (zs:List V) (os:List Nat) (n:Nat),vs=[.ref w,.ref a,.ref c]/\H w=some (.ins C dx [])/\(H a=some (.lst zs)\/False)/\(∀z∈zs,Th H z)/\zs.length=n/\(H c=some (.lst (NV os))\/False)/\Ord os n/\n<=60/\
 ∀(ta pa:Addr) (ps:List Addr) (us:List V) (H':Hp),H ta=none->H pa=none->RwK C H' w ta pa ps us .non (i3 os) 0->us.length=n->(∀b o,H b=some o->b≠w->H' b=some o)->Q .non H'
theorem eO (T:Tx K mg t):FnOk P t.wd K mg t.bs CX0 3 t.bX t.bW ["self","things","order"] (yc t.ag):=by
 have nd:=sc_RingWalk___init__.nd;refine T.fe.okQ sc_RingWalk___init__ (λvs H Q E h=>?_) (λcdv A outer s H vs Q E hr h=>?_)
 ·obtain⟨w,dx,a,c,zs,os,n,rfl,_⟩:=h
  rfl
 ·obtain⟨w,dx,a,c,zs,os,n,rfl,hw,ha,hZ,hzn,hc,hO,hn,k⟩:=h
  have hlen:=hO.len;obtain⟨hml,hm2⟩:=gC hO;have hrl:=eM hO;rcases ha with ta|ta
  ·refine⟨_,(af (bf (az (iM T) hr (T.fn 12 rfl) (aj (qv 2) (aj (aq (a8 (K:=K)) (by rfl) T.bA aR (aj (qv 1) aa)) aa))))
   (af (dW (K:=K) (qv 0) (bj (N:=["thing"]) (tgs:=["thing"]) (frs:=[]) (ix:=[]) ⟨rfl,by decide +kernel,rfl,by decide +kernel,rfl,rfl,EX,EX,rfl⟩ rfl (bx (K:=K) (qv 1)) (λ_ _ _ _=>(aN (i:=0))) (λ_ _ _ _=>(az (lK T) hr (T.fn 13 rfl) (aj (qv 0) aa)))))
   (af (dW (K:=K) (qv 0) bJ)
   (af (dW (K:=K) (qv 0) (t4 (N:=["ring","move"]) (tgs:=["ring","move"]) (frs:=[]) (ix:=[]) ⟨rfl,by decide +kernel,rfl,by decide +kernel,rfl,rfl,EX,EX,rfl⟩ rfl (bx (K:=K) (az (ni T) hr (T.fn 16 rfl) (aj (qv 2) aa))) (λ_ _ _ _=>(aN (i:=0))) (λ_ _ _ _=>(bx (K:=K) (az (gn T) hr (T.fn 27 rfl) (aj (qv 0) aa)))) (λ_ _ _ _=>(aN (i:=1))) (λ_ _ _ _=>(qv 1))))
   (ai (dW (K:=K) (qv 0) ah)))))),?_⟩
   rw[show L2.dq ["self","things","order"] [Oa w,Oa a,Oa c]=[some (Oa w),some (Oa a),some (Oa c)]from rfl];nofun;refine aJ (N4 ta) ?_;rw[hzn];nofun;refine⟨c,os,n,rfl,hc,hO,hn,λH1 s1=>?_⟩;have ta1:=s1 _ _ ta;nofun;refine⟨a,rfl,⟨_,N4 ta1⟩,bN (a:=a) (vs:=zs) (λi ys σ H'=>Same H1 H'/\ys.length=i/\i<=zs.length/\∃v,σ=[v]) (ar ⋯) (λi ys σ H' h=>h.2.1) (λi ys σ H' h=>N4 (h.1 _ _ ta1)) ⟨Oc _,rfl,EU _,none,rfl⟩ ?_ ?_⟩
   ·rintro i ys σ H2 x hx ⟨s2,A2,hi,v,rfl⟩
    have hil:=cE hx;nofun;refine⟨x,rfl,(hZ x (ES hx)).same (s1.trans s2),λy H3 s3 _=>?_⟩;exact Oe hil ⟨s2.trans s3,by rw[Fd,A2];rfl,hil,_,rfl⟩
   rintro ys σ H2 ⟨s2,A2,hi,v,rfl⟩ tl htl;have s02:=s1.trans s2;have htn:H tl=none:=s02.free htl;obtain⟨H3,e9,s3,tt3⟩:=nwS s02 htl (.lst ys);rw[e9];have hw3:=s3 _ _ hw;have hwt:w≠tl:=fm hw3 tt3 (by intro z;cases z);nofun;refine⟨w,t.ag,dx,_,rfl,hw3,T.aA,T.aD,by show 0<1000;decide,?_⟩;have kp4:∀b o,H3 b=some o->b≠w->(upd H3 w (.ins t.ag dx (bI "things" (.ref tl) []))) b=some o:=λb o e hb=>by rw[ak hb];exact e
   have ob4:(upd H3 w (.ins t.ag dx (bI "things" (.ref tl) []))) w=some (.ins t.ag dx (bI "things" (.ref tl) [])):=ae;generalize upd H3 w (.ins t.ag dx (bI "things" (.ref tl) []))=H4 at kp4 ob4;nofun;refine⟨w,t.ag,dx,_,rfl,ob4,T.aA,T.bh,by show 1<1000;decide,?_⟩;rw[CT];have kp5:∀b o,H3 b=some o->b≠w->(upd H4 w (.ins t.ag dx [("things",Oa tl),("held",Ob)])) b=some o:=λb o e hb=>by rw[ak hb];exact kp4 b o e hb
   have ob5:(upd H4 w (.ins t.ag dx [("things",Oa tl),("held",Ob)])) w=some (.ins t.ag dx [("things",Oa tl),("held",Ob)]):=ae;generalize upd H4 w (.ins t.ag dx [("things",Oa tl),("held",Ob)])=H5 at kp5 ob5;have hcw:c≠w:=λz=>by
    rcases hc with h|h
    ·rw[z,hw]at h;cases h
    ·exact h
   have hc5:H5 c=some (.lst (NV os)):=hc.elim (λh=>kp5 _ _ (s3 _ _ h) hcw) F6;unfold qm;nofun;refine⟨c,os,rfl,.inl hc5,by lia,λo ho=>by rw[hlen];exact hO.lt o ho,λrl rps H6 hrln hrps hrn s6 trl hL=>?_⟩;have hrpl:rps.length=(aB os).length:=hL.1;nofun;refine⟨rl,rfl,⟨_,N4 trl⟩,qo (a:=rl) (vs:=rps.map Oa) (λi ys σ H'=>Same H6 H'/\(∃qs:List Addr,ys=qs.map Oa/\MvsAt H' qs (mvs ((aB os).take i)))/\∃v v2,σ=[v,v2]) (λi ys σ H' h=>by
    obtain⟨_,⟨qs,rfl,M⟩,_⟩:=h;have h9:=jL (aB os) i;have h8:(mvs (aB os)).length<=2*n:=hm2;rw[EE,M.1];exact ar ⋯) (λi ys σ H' h=>N4 (h.1 _ _ trl)) ⟨Oc _,⟨[],rfl,MvsAt.nil⟩,_,_,rfl⟩ ?_ ?_⟩
   ·rintro i ys σ H7 x hx ⟨s7,⟨qs,rfl,M7⟩,v,v2,rfl⟩
    have hil:=cE hx;obtain⟨g,rfl,hg,_,hi⟩:=aX hx;have hir:i<(aB os).length:=by lia
    have er:(aB os)[i]? = some (aB os)[i]:=EF hir;have tg:=s7 _ _ (hL.2 i g _ hg er);obtain⟨hr1,hr2⟩:=hrl _ (Fh hir);have hr3:(aB os)[i].length<=201:=by
     have:=(c7 os os.length).2 _ (Fh hir);lia
    generalize (aB os)[i]=r at er tg hr1 hr2 hr3;have h9:=jL (aB os) (i+1);have h8:(mvs (aB os)).length<=2*n:=hm2;rw[gE er,Fd]at h9;nofun;refine⟨g,r,rfl,tg,hr1,hr3,λl ps' H8 hl s8 tl8 M8=>?_⟩;nofun;refine⟨l,rfl,⟨_,N4 tl8⟩,xt (b:=l) (ws:=ps'.map Oa) (λj ys σ H'=>H'=H8/\ys=(qs++ps'.take j).map Oa/\∃v v2,σ=[v,v2]) (λj ys σ H' h=>by
     rw[h.2.1,EE,Fd,M7.1,FN,M8.1];exact ar ⋯) (λj ys σ H' h=>by rw[h.1];exact N4 tl8) ⟨rfl,by simp,_,_,rfl⟩ ?_ ?_⟩
    ·rintro j ys σ H' x hx ⟨rfl,rfl,v,v2,rfl⟩
     have hjl:=cE hx;obtain⟨q,rfl,hq,_,hj⟩:=aX hx;nofun;refine Oe hjl ⟨rfl,?_,_,_,rfl⟩;rw[E3,hq,<-HQ];simp
    ·rintro ys σ H' ⟨rfl,rfl,v,v2,rfl⟩
     rw[ER (by rw[EE];exact EI _)];refine Oe hil ⟨s7.trans s8,⟨qs++ps',rfl,?_⟩,_,_,rfl⟩;rw[gE er];exact yb (M7.tk (TupK.of s8)) M8
   rintro ys σ H7 ⟨s7,⟨qs,rfl,M7⟩,v,v2,rfl⟩ pl hpl;rw[ER (by rw[EE];lia)]at M7;have s57:=s6.trans s7;have s8:=s57.new (o:=.lst (qs.map Oa)) hpl;have tp8:(upd H7 pl (.lst (qs.map Oa))) pl=some (.lst (qs.map Oa)):=ae;have M8:=M7.tk (TupK.of ((Oc H7).new (o:=.lst (qs.map Oa)) hpl));generalize upd H7 pl (.lst (qs.map Oa))=H8 at s8 tp8 M8;have ob8:=s8 _ _ ob5;have tt8:=s8 _ _ (kp5 _ _ tt3 (E7 hwt));have hwp:w≠pl:=fm ob8 tp8 (by intro z;cases z);have h5p:H5 pl=none:=s57.free hpl;have htp:tl≠pl:=λz=>by rw[<-z,kp5 _ _ tt3 (E7 hwt)]at h5p;cases h5p
   have hpn:H pl=none:=by
    cases z:H pl with
    | none=>rfl
    | some o=>
     have hne:pl≠w:=E7 hwp;rw[kp5 _ _ (s3 _ _ z) hne]at h5p;cases h5p
   nofun;refine⟨w,t.ag,dx,_,rfl,ob8,T.aA,T.bD,by show 2<1000;decide,?_⟩;rw[CU];have kp9:∀b o,H3 b=some o->b≠w->(upd H8 w (.ins t.ag dx [("things",Oa tl),("held",Ob),("plan",Oa pl)])) b=some o:=λb o e hb=>by rw[ak hb];exact s8 _ _ (kp5 b o e hb)
   have ob9:(upd H8 w (.ins t.ag dx [("things",Oa tl),("held",Ob),("plan",Oa pl)])) w=some (.ins t.ag dx [("things",Oa tl),("held",Ob),("plan",Oa pl)]):=ae;have tp9:(upd H8 w (.ins t.ag dx [("things",Oa tl),("held",Ob),("plan",Oa pl)])) pl=some (.lst (qs.map Oa)):=by rw[ak (E7 hwp)];exact tp8
   have M9:=M8.tk (TupK.upd (o:=.ins t.ag dx [("things",Oa tl),("held",Ob),("plan",Oa pl)]) ob8 (λxs z=>by cases z));generalize upd H8 w (.ins t.ag dx [("things",Oa tl),("held",Ob),("plan",Oa pl)])=H9 at kp9 ob9 tp9 M9;nofun;refine⟨w,t.ag,dx,_,rfl,ob9,T.aA,T.bg,by show 3<1000;decide,?_⟩;rw[CV];have kpA:∀b o,H3 b=some o->b≠w->(upd H9 w (.ins t.ag dx (rwF tl .non pl 0))) b=some o:=λb o e hb=>by rw[ak hb];exact kp9 b o e hb
   nofun;exact k tl pl qs ys _ htn hpn ⟨⟨dx,ae⟩,kpA _ _ tt3 (E7 hwt),by rw[ak (E7 hwp)];exact tp9,M9.tk (TupK.upd ob9 (λxs z=>by cases z)),htp⟩ (by rw[A2];exact hzn) λb o e hb=>kpA b o (s3 _ _ e) hb
  ·exact ta.elim
noncomputable def mvW:RMv->List Str
 | .take x=>["take",b9 x]
 | .move x y=>["move",b9 x,b9 y]
 | .lay x=>["lay",b9 x]
noncomputable def f6(os:List Nat):List Nat:=(EZ os.length).map λk=>os.idxOf k
theorem yd{os bs:List Nat}(h:Ord os n)(b:Back os bs n):bs=f6 os:=by
 refine xf (n:=n) b.len (by unfold f6;rw[EE,Fz,h.len]) λk hk=>?_
 obtain⟨i,hi,a⟩:=h.sur k hk;refine⟨i,b.at_ i k a,?_⟩;unfold f6;rw[EN,Ga (by rw[h.len];exact hk)];have hm:k∈os:=ES a;have e1:=EF (Ha hm);rw[KB]at e1;have:=h.inj _ _ _ e1 a;show some (os.idxOf k)=some i
 rw[this]
noncomputable def lV(w:Str)(os:List Nat):Str:=
 if w = "order" then wrS (os.map b9)else if w = "back" then wrS ((f6 os).map b9)else if w = "rings" then wrR ((aB os).map λr=>r.map b9)else wrR ((i3 os).map mvW)
theorem cC:¬("back" : Str) = "order"/\¬("rings" : Str) = "order"/\¬("rings" : Str) = "back"/\¬("walk" : Str) = "order"/\¬("walk" : Str) = "back"/\¬("walk" : Str) = "rings":=by decide +kernel
theorem vy (os:List Nat):lV "order" os=wrS (os.map b9):=if_pos rfl
theorem vz (os:List Nat):lV "back" os=wrS ((f6 os).map b9):=by unfold lV;rw[if_neg cC.1,if_pos rfl]
theorem vA (os:List Nat):lV "rings" os=wrR ((aB os).map λr=>r.map b9):=by unfold lV;rw[if_neg cC.2.1,if_neg cC.2.2.1,if_pos rfl]
theorem vB (os:List Nat):lV "walk" os=wrR ((i3 os).map mvW):=by unfold lV;rw[if_neg cC.2.2.2.1,if_neg cC.2.2.2.2.1,if_neg cC.2.2.2.2.2]
noncomputable def ask4:List Str:=["order","back","rings","walk"]
noncomputable def okA:Dd->Prop
 | .ask w=>w∈ask4
 | _=>False
noncomputable def Ans(kd:Str)(b:Nat)(ks:List Ky)(ps:List (List Ky)):Dd->Str->Prop
 | .ask w,s=>∃os,KyOrd kd ks os/\s=lV w os
 | _,_=>False
noncomputable def hX(ks:List Ky):List Dd->List Ky
 | []=>ks
 | .row k2::ds=>hX k2 ds
 | .pour _::ds=>hX ks ds
 | .ask _::ds=>hX ks ds
 | .srt _::ds=>hX ks ds
noncomputable def ee(ps:List (List Ky)):List Dd->List (List Ky)
 | []=>ps
 | .row _::ds=>ee ps ds
 | .pour k2::ds=>ee (ps++[k2]) ds
 | .ask _::ds=>ee ps ds
 | .srt _::ds=>ee ps ds
noncomputable def AnsF(kd:Str)(b:Nat):List Ky->List (List Ky)->List Dd->List Str->Prop
 | _,_,[],as=>as=[]
 | _,ps,.row k2::ds,as=>AnsF kd b k2 ps ds as
 | ks,ps,.pour k2::ds,as=>AnsF kd b ks (ps++[k2]) ds as
 | ks,ps,.ask w::ds,as=>∃s r,as=s::r/\Ans kd b ks ps (.ask w) s/\AnsF kd b ks ps ds r
 | ks,ps,.srt w::ds,as=>∃s r,as=s::r/\Ans kd b ks ps (.srt w) s/\AnsF kd b ks ps ds r
theorem b7:∀(ds es:List Dd) (ks:List Ky),hX ks (ds++es)=hX (hX ks ds) es
 | [],_,_=>rfl
 | .row _::ds,es,_=>b7 ds es _
 | .pour _::ds,es,_=>b7 ds es _
 | .ask _::ds,es,_=>b7 ds es _
 | .srt _::ds,es,_=>b7 ds es _
theorem cq:∀(ds es:List Dd) (ps:List (List Ky)),ee ps (ds++es)=ee (ee ps ds) es
 | [],_,_=>rfl
 | .row _::ds,es,_=>cq ds es _
 | .pour _::ds,es,_=>cq ds es _
 | .ask _::ds,es,_=>cq ds es _
 | .srt _::ds,es,_=>cq ds es _
theorem AnsF.app{kd:Str}{b:Nat}:∀{ds:List Dd}{ks:List Ky}{ps:List (List Ky)}{as:List Str}{es:List Dd}{bs:List Str},AnsF kd b ks ps ds as->AnsF kd b (hX ks ds) (ee ps ds) es bs->AnsF kd b ks ps (ds++es) (as++bs)
 | [],_,_,_,_,_,h,g=>by obtain rfl:=h;exact g
 | .row _::ds,_,_,_,_,_,h,g=>AnsF.app (ds:=ds) h g
 | .pour _::ds,_,_,_,_,_,h,g=>AnsF.app (ds:=ds) h g
 | .ask _::ds,_,_,_,_,_,h,g=>by obtain⟨s,r,rfl,a,h⟩:=h;exact⟨s,_,rfl,a,AnsF.app (ds:=ds) h g⟩
 | .srt _::ds,_,_,_,_,_,h,g=>by obtain⟨s,r,rfl,a,h⟩:=h;exact⟨s,_,rfl,a,AnsF.app (ds:=ds) h g⟩
theorem ia{kd:Str}:∀{ds:List Dd}{ks:List Ky},lT kd ks->(∀d∈ds,d.ok kd)->lT kd (hX ks ds)
 | [],_,h,_=>h
 | .row k2::ds,_,_,g=>ia (ds:=ds) (g _ (Fn ..)) λd hd=>g d (E4 _ hd)
 | .pour _::ds,_,h,g=>ia (ds:=ds) h λd hd=>g d (E4 _ hd)
 | .ask _::ds,_,h,g=>ia (ds:=ds) h λd hd=>g d (E4 _ hd)
 | .srt _::ds,_,h,g=>ia (ds:=ds) h λd hd=>g d (E4 _ hd)
noncomputable def dkF (kd:Str) (b:Int) (la pa:Addr):List (Str×V):=[("kind",.str kd),("base",.int b),("laid",.ref la),("pourings",.ref pa)]
theorem ye:∀x∈([("base" : Str),"laid","pourings"]:List Str),¬(("kind" : Str)=x):=by decide +kernel
theorem AW:∀x∈([("laid" : Str),"pourings"]:List Str),¬(("base" : Str)=x):=by decide +kernel
theorem DW:¬(("laid" : Str) = "pourings"):=by decide +kernel
theorem yf (kd:Str) (b:Int) (la pa:Addr):bI "pourings" (.ref pa) (bI "laid" (.ref la) (bI "base" (.int b) (bI "kind" (.str kd) [])))=dkF kd b la pa:=by
 rw[show bI "kind" (.str kd) []=[(("kind" : Str),N9 kd)]from rfl,aS _ _ _ (ye "base" (by simp)),show bI "base" (.int b) []=[(("base" : Str),N7 b)]from rfl];rw[aS _ _ _ (ye "laid" (by simp)),aS _ _ _ (AW "laid" (by simp)),show bI "laid" (.ref la) []=[(("laid" : Str),Oa la)]from rfl];rw[aS _ _ _ (ye "pourings" (by simp)),aS _ _ _ (AW "pourings" (by simp)),aS _ _ _ DW];rfl
theorem yg (kd:Str) (b:Int) (la pa l:Addr):bI "laid" (.ref l) (dkF kd b la pa)=dkF kd b l pa:=by
 unfold dkF;rw[aS _ _ _ (ye "laid" (by simp)),aS _ _ _ (AW "laid" (by simp))];congr 2
theorem uy (kd:Str) (b:Int) (la pa:Addr):(dkF kd b la pa).lookup ("kind" : Str)=some (.str kd):=dX
theorem uz (kd:Str) (b:Int) (la pa:Addr):(dkF kd b la pa).lookup ("base" : Str)=some (.int b):=by unfold dkF;rw[bB (E7 (ye "base" (by simp))),dX]
theorem nj (kd:Str) (b:Int) (la pa:Addr):(dkF kd b la pa).lookup ("laid" : Str)=some (.ref la):=by unfold dkF;rw[bB (E7 (ye "laid" (by simp))),bB (E7 (AW "laid" (by simp))),dX]
theorem uA (kd:Str) (b:Int) (la pa:Addr):(dkF kd b la pa).lookup ("pourings" : Str)=some (.ref pa):=by unfold dkF;rw[bB (E7 (ye "pourings" (by simp))),bB (E7 (AW "pourings" (by simp))),bB (E7 DW),dX]
theorem gF(f:Str)(v:V):∀r:List (Str×V),(bI f v r).length<=r.length+1
 | []=>EI _
 | (g,x)::r=>by
  have:=gF f v r;rw[bI];split<;>simp<;>lia
theorem KsW.tup{H H1:Hp}{us:List V}{ks:List Ky}(h:KsW H us ks)(s:∀b xs,H b=some (.tup xs)->H1 b=some (.tup xs)):KsW H1 us ks:=⟨h.1,λi v k a b=>Ky.keep (h.2 i v k a b) s⟩
def PsW(H:Hp)(qs:List Addr)(ps:List (List Ky)):Prop:=qs.length=ps.length/\∀(i:Nat) q ks,qs[i]? = some q->ps[i]? = some ks->∃us,H q=some (.lst us)/\KsW H us ks
def AX(C:Addr)(H:Hp)(w:Addr)(kd:Str)(b:Nat)(ks:List Ky)(ps:List (List Ky)):Prop:=∃dx la us pa qs,H w=some (.ins C dx (dkF kd b la pa))/\H la=some (.lst us)/\KsW H us ks/\H pa=some (.lst (qs.map Oa))/\PsW H qs ps
structure DkX (C:Addr) (B H:Hp) (w an dx la pa:Addr) (us:List V) (qs:List Addr) (kd:Str) (b:Nat) (ks:List Ky) (ps:List (List Ky)):Prop where
 ins:H w=some (.ins C dx (dkF kd b la pa))
 lay:H la=some (.lst us)
 key:KsW H us ks
 prs:H pa=some (.lst (qs.map Oa))
 pou:PsW H qs ps
 nan:la≠an
 npa:la≠pa
 npn:pa≠an
 bw:B w=none
 ba:B an=none
 bp:B pa=none
 old:∀q∈qs,∃o,B q=some o
section
variable{t:Ad}{C:Addr}{B H H1:Hp}{w an dx la pa:Addr}{us:List V}{qs:List Addr}{kd:Str}{b:Nat}{ks:List Ky}{ps:List (List Ky)}
theorem DkX.at(h:DkX C B H w an dx la pa us qs kd b ks ps):AX C H w kd b ks ps:=⟨dx,la,us,pa,qs,h.ins,h.lay,h.key,h.prs,h.pou⟩
theorem DkX.keep(h:DkX C B H w an dx la pa us qs kd b ks ps)(s:∀a o,H a=some o->PlO o->H1 a=some o):DkX C B H1 w an dx la pa us qs kd b ks ps:=
 ⟨s _ _ h.ins trivial,s _ _ h.lay trivial,h.key.tup λ_ _ e=>s _ _ e trivial,s _ _ h.prs trivial,⟨h.pou.1,λi q k a c=>by obtain⟨us,e1,e2⟩:=h.pou.2 i q k a c;exact⟨us,s _ _ e1 trivial,e2.tup λ_ _ e=>s _ _ e trivial⟩⟩,h.nan,h.npa,h.npn,h.bw,h.ba,h.bp,h.old⟩
theorem DkX.app(h:DkX C B H w an dx la pa us qs kd b ks ps)(ta:H an=some (.lst xs)):DkX C B (upd H an (.lst ys)) w an dx la pa us qs kd b ks ps:=by
 have tu:∀a zs,H a=some (.tup zs)->(upd H an (.lst ys)) a=some (.tup zs):=λa zs e=>by rw[ak (λz=>by rw[z,ta]at e;cases e)];exact e
 refine⟨by rw[ak (λz=>by have e:=h.ins;rw[z,ta]at e;cases e)];exact h.ins,by rw[ak h.nan];exact h.lay,h.key.tup tu,by rw[ak h.npn];exact h.prs,⟨h.pou.1,λi q k a c=>?_⟩,h.nan,h.npa,h.npn,h.bw,h.ba,h.bp,h.old⟩;obtain⟨us,e1,e2⟩:=h.pou.2 i q k a c;obtain⟨o,e3⟩:=h.old q (ES a);exact⟨us,by rw[ak (ao e3 h.ba)];exact e1,e2.tup tu⟩
theorem DkX.setl{vs:List V}{k2:List Ky}(h:DkX C B H w an dx la pa us qs kd b ks ps)(e:B l=some o)(tl:H l=some (.lst vs))(hk:KsW H vs k2):DkX C B (upd H w (.ins C dx (dkF kd b l pa))) w an dx l pa vs qs kd b k2 ps:=by
 have tu:∀a zs,H a=some (.tup zs)->(upd H w (.ins C dx (dkF kd b l pa))) a=some (.tup zs):=λa zs e=>by rw[ak (λz=>by rw[z,h.ins]at e;cases e)];exact e
 have lu:∀a zs,H a=some (.lst zs)->(upd H w (.ins C dx (dkF kd b l pa))) a=some (.lst zs):=λa zs e=>by rw[ak (λz=>by rw[z,h.ins]at e;cases e)];exact e
 refine⟨ae,lu _ _ tl,hk.tup tu,lu _ _ h.prs,⟨h.pou.1,λi q k a c=>?_⟩,ao e h.ba,ao e h.bp,h.npn,h.bw,h.ba,h.bp,h.old⟩;obtain⟨us,e1,e2⟩:=h.pou.2 i q k a c;exact⟨us,lu _ _ e1,e2.tup tu⟩
theorem DkX.add{vs:List V}{k2:List Ky}(h:DkX C B H w an dx la pa us qs kd b ks ps)(e:B l=some o)(tl:H l=some (.lst vs))(hk:KsW H vs k2):DkX C B (upd H pa (.lst (qs.map Oa++[.ref l]))) w an dx la pa us (qs++[l]) kd b ks (ps++[k2]):=by
 have tu:∀a zs,H a=some (.tup zs)->(upd H pa (.lst (qs.map Oa++[.ref l]))) a=some (.tup zs):=λa zs e=>by rw[ak (λz=>by rw[z,h.prs]at e;cases e)];exact e
 refine⟨by rw[ak (λz=>by have e:=h.ins;rw[z,h.prs]at e;cases e)];exact h.ins,by rw[ak h.npa];exact h.lay,h.key.tup tu,by rw[ae,EK];rfl,⟨by simp[h.pou.1],λi q k a c=>?_⟩,h.nan,h.npa,h.npn,h.bw,h.ba,h.bp,λq hq=>?_⟩
 ·by_cases hi:i<qs.length
  ·rw[E6 hi]at a
   rw[E6 (by rw[<-h.pou.1];exact hi)]at c;obtain⟨us,e1,e2⟩:=h.pou.2 i q k a c;obtain⟨o,e3⟩:=h.old q (ES a);exact⟨us,by rw[ak (ao e3 h.bp)];exact e1,e2.tup tu⟩
  ·have e4:i=qs.length:=by
    have:=(EM.mp a).1;simp at this;lia
   subst e4;rw[E8 (EI _),G7]at a;rw[E8 (by rw[h.pou.1];exact EI _),show qs.length - ps.length=0 by have:=h.pou.1;lia]at c;cases a;cases c;exact⟨vs,by rw[ak (ao e h.bp)];exact tl,hk.tup tu⟩
 ·rcases Fq.mp hq with g|g
  ·exact h.old q g
  ·rw[Fu.mp g];exact⟨o,e⟩
end
def AY(C:Addr):Sp:=λvs H Q _=>∃(d dx:Addr) (kd:Str) (b:Nat),vs=[.ref d,.str kd,.int b]/\H d=some (.ins C dx [])/\∀(la pa:Addr) H',H la=none->H pa=none->la≠pa->H' d=some (.ins C dx (dkF kd b la pa))->H' la=some (.lst [])->H' pa=some (.lst [])->(∀c o,H c=some o->c≠d->H' c=some o)->Q .non H'
theorem gq (T:Tx K mg t):FnOk P t.wd K mg t.bs CX0 1 t.cV t.cS ["self","kind","base"] (AY t.aG):=by
 have nd:=sc_Desk___init__.nd;refine T.ip.okQ sc_Desk___init__ (λvs H Q E h=>?_) (λcdv A outer s H vs Q E hr h=>?_)
 ·obtain⟨d,dx,kd,b,rfl,_⟩:=h
  rfl
 ·obtain⟨d,dx,kd,b,rfl,ob,k⟩:=h
  refine⟨_,(af (dW (K:=K) (qv 0) (qv 1))
   (af (dW (K:=K) (qv 0) (qv 2))
   (af (dW (K:=K) (qv 0) (aP aa))
   (ai (dW (K:=K) (qv 0) (aP aa)))))),?_⟩
  rw[show L2.dq ["self","kind","base"] [Oa d,N9 kd,N7 b]=[some (Oa d),some (N9 kd),some (N7 b)]from rfl];nofun;refine⟨d,t.aG,dx,_,rfl,ob,T.dc,T.cZ,by decide,?_⟩;nofun;refine⟨d,t.aG,dx,_,rfl,ae,T.dc,T.cY,by simp[bI],?_⟩;rw[vH];have o1:(upd H d (.ins t.aG dx (bI "base" (.int b) (bI "kind" (.str kd) [])))) d=some (.ins t.aG dx (bI "base" (.int b) (bI "kind" (.str kd) []))):=ae;have k1:∀c o,H c=some o->c≠d->(upd H d (.ins t.aG dx (bI "base" (.int b) (bI "kind" (.str kd) [])))) c=some o:=λc o e n=>by rw[ak n];exact e
  have f1:∀c,(upd H d (.ins t.aG dx (bI "base" (.int b) (bI "kind" (.str kd) [])))) c=none->H c=none:=λc e=>by
   rw[ak (λz=>by rw[z,ae]at e;cases e)]at e;exact e
  generalize upd H d (.ins t.aG dx (bI "base" (.int b) (bI "kind" (.str kd) [])))=H1 at o1 k1 f1;nofun;refine⟨aI (by simp),λla hla=>?_⟩;have n1:d≠la:=ao o1 hla;obtain⟨H2,e9,s2,tl⟩:=nwR hla (.lst []);rw[e9];nofun;refine⟨d,t.aG,dx,_,rfl,s2 _ _ o1,T.dc,T.bY,FC (gF _ _ _) (by simp[bI]),?_⟩;have k3:∀c o,H2 c=some o->c≠d->(upd H2 d (.ins t.aG dx (bI "laid" (.ref la) (bI "base" (.int b) (bI "kind" (.str kd) []))))) c=some o:=λc o e n=>by rw[ak n];exact e
  have o3:(upd H2 d (.ins t.aG dx (bI "laid" (.ref la) (bI "base" (.int b) (bI "kind" (.str kd) []))))) d=some (.ins t.aG dx (bI "laid" (.ref la) (bI "base" (.int b) (bI "kind" (.str kd) [])))):=ae;have f3:∀c,(upd H2 d (.ins t.aG dx (bI "laid" (.ref la) (bI "base" (.int b) (bI "kind" (.str kd) []))))) c=none->H2 c=none:=λc e=>by
   rw[ak (λz=>by rw[z,ae]at e;cases e)]at e;exact e
  generalize upd H2 d (.ins t.aG dx (bI "laid" (.ref la) (bI "base" (.int b) (bI "kind" (.str kd) []))))=H3 at k3 o3 f3;nofun;refine⟨aI (by simp),λpa hpa=>?_⟩;obtain⟨H4,e9,s4,tp⟩:=nwR hpa (.lst []);rw[e9];have n2:d≠pa:=ao o3 hpa;nofun;refine⟨d,t.aG,dx,_,rfl,s4 _ _ o3,T.dc,T.bM,FC (gF _ _ _) (FC (He (gF _ _ _)) (by simp[bI])),?_⟩;rw[yf];have k5:∀c o,H4 c=some o->c≠d->(upd H4 d (.ins t.aG dx (dkF kd b la pa))) c=some o:=λc o e n=>by rw[ak n];exact e
  nofun;have hp2:=f3 _ hpa;exact k la pa _ (f1 _ hla) (f1 _ (s2.free hp2)) (λz=>by rw[z,hp2]at tl;cases tl) ae (k5 _ _ (s4 _ _ (k3 _ _ tl (E7 n1))) (E7 n1)) (k5 _ _ tp (E7 n2)) λc o e n=>k5 _ _ (s4 _ _ (k3 _ _ (s2 _ _ (k1 _ _ e n)) n)) n
def oo(t:Ad):Sp:=λvs H Q _=>∃(w:Addr) (a:Str) (g:V) (d:Dd) (kd:Str) (b:Nat) (ks:List Ky) (ps:List (List Ky)),vs=[.ref w,.str a,g]/\AX t.aG H w kd b ks ps/\kd∈cQ/\2<=b/\b<=64/\lT kd ks/\(∀p∈ps,lT kd p)/\DdV H a g d/\d.ok kd/\okA d/\Tb t H/\∀(s:Str) H',Sx t H H'->Tb t H'->Ans kd b ks ps d s->Q (.str s) H'
theorem fG:∀n,n<200->(b9 n).length<=18/\(b9 n).length≠0:=by decide +kernel
theorem ib(h:n<200):TxA (.int (n:Nat)) (b9 n):=⟨.inr ⟨n,rfl,rfl,by lia⟩,fG n h⟩
theorem lW{w:Str}(h:w.length<=18/\w.length≠0):TxA (.str w) w:=⟨.inl rfl,h⟩
theorem yh(h:∀x∈r,x<200):(NV r).length=(r.map b9).length/\∀(i:Nat) u w,(NV r)[i]? = some u->(r.map b9)[i]? = some w->TxA u w:=by
 refine⟨by rw[bt,EE],λi u w a b=>?_⟩;obtain⟨x,rfl,ex,hx,_⟩:=aX a;rw[EN,ex]at b;cases b;exact ib (h x hx)
theorem AZ{m:RMv}(h:m.lt 60):m.vs.length=(mvW m).length/\∀(i:Nat) u w,m.vs[i]? = some u->(mvW m)[i]? = some w->TxA u w:=by
 have h3:∀w∈(["take","move","lay"]:List Str),w.length<=18/\w.length≠0:=by decide +kernel
 cases m with
 | take x=>
  have hx:x<60:=h;refine⟨rfl,λi u w a b=>?_⟩
  match i with
  | 0=>cases a;cases b;exact lW (h3 _ (by simp))
  | 1=>cases a;cases b;exact ib ⋯
  | i+2=>cases a
 | move x y=>
  obtain⟨hx,hy⟩:x<60/\y<60:=h;refine⟨rfl,λi u w a b=>?_⟩
  match i with
  | 0=>cases a;cases b;exact lW (h3 _ (by simp))
  | 1=>cases a;cases b;exact ib ⋯
  | 2=>cases a;cases b;exact ib ⋯
  | i+3=>cases a
 | lay x=>
  have hx:x<60:=h;refine⟨rfl,λi u w a b=>?_⟩
  match i with
  | 0=>cases a;cases b;exact lW (h3 _ (by simp))
  | 1=>cases a;cases b;exact ib ⋯
  | i+2=>cases a
theorem A0{m:RMv}(h:m.lt n)(g:n<=k):m.lt k:=by
 cases m with
 | take x=>exact Fb h g
 | move x y=>exact⟨Fb h.1 g,Fb h.2 g⟩
 | lay x=>exact Fb h g
theorem Tb.out{t:Ad}{H:Hp}(T:Tb t H)(s:Sx t H H1)(T1:Tb t H1)(e:H1 a=none):H a=none:=by
 cases q:H a with
 | none=>rfl
 | some o=>
  by_cases hp:a=t.pt
  ·rcases T1 with z|⟨c,z,_⟩<;>(rw[<-hp,e]at z;cases z)
  ·rw[s a o hp q]at e;cases e
theorem Tb.kp{t:Ad}{H:Hp}{w:Addr}{fs:List (Str×V)}{us:List V}(T:Tb t H)(K:KpR w a H H1)(ob:H w=some (.ins C dx fs))(ta:H a=some (.lst us)):Tb t H1:=by
 rcases T with q|⟨c,q,r⟩
 ·exact .inl (K _ _ q (λz=>by rw[z,ob]at q;cases q) (λz=>by rw[z,ta]at q;cases q))
 ·exact .inr ⟨c,K _ _ q (λz=>by rw[z,ob]at q;cases q) (λz=>by rw[z,ta]at q;cases q),K _ _ r (λz=>by rw[z,ob]at r;cases r) (λz=>by rw[z,ta]at r;cases r)⟩
def uB(t:Ad):Sp:=λvs H Q _=>∃(w:Addr) (kd:Str) (b:Nat) (ks:List Ky) (ps:List (List Ky)),vs=[.ref w]/\AX t.aG H w kd b ks ps/\kd∈cQ/\2<=b/\b<=64/\lT kd ks/\
 ∀(tt l:Addr) (qs:List Addr) (rss:List (List Nat)) (wd by':Nat) H',Same H H'->H' tt=some (.tup [.int by',.ref l])->H' l=some (.lst (qs.map Oa))->RowsT H' qs rss->(jK kd ks).rows b rss wd by'->Q (.ref tt) H'
theorem oq (T:Tx K mg t):FnOk P t.wd K mg t.bs CX0 5 (t.f 60) (t.d 60) ["desk"] (uB t):=by
 refine okT (N:=["desk"]) (T.fn 60 rfl) (λH Q hr nd h=>?_)
 ·obtain⟨w,kd,b,ks,ps,rfl,⟨dx,la,us,pa,qs,e1,e2,hK,_⟩,hkd,hb2,hb64,hk,k⟩:=h
  obtain⟨k1,k2,k3,k4⟩:=x5 hkd hK hk;refine⟨_,(ai (au (az (og T) hr (T.fn 36 rfl) (aj (cF (K:=K) (qv 0)) (aj (cF (K:=K) (qv 0)) (aj (cF (K:=K) (qv 0)) aa)))))),?_⟩;dsimp only[st0];nofun;refine⟨w,t.aG,dx,_,_,rfl,e1,T.dc,T.cZ,uy _ _ _ _,?_⟩;nofun;refine⟨w,t.aG,dx,_,_,rfl,e1,T.dc,T.bY,nj _ _ _ _,?_⟩;nofun;refine⟨w,t.aG,dx,_,_,rfl,e1,T.dc,T.cY,uz _ _ _ _,?_⟩;nofun;exact⟨jK kd ks,us,la,b,by rw[k1];rfl,.inl e2,k2,k3,hb2,hb64,λtt l ps' rss wd by' H1 s1 tt1 tl hR hrw=>k tt l ps' rss wd by' H1 s1 tt1 tl hR hrw⟩
def yi(t:Ad):Sp:=λvs H Q _=>∃(w:Addr) (kd:Str) (b:Nat) (ks:List Ky) (ps:List (List Ky)),vs=[.ref w]/\AX t.aG H w kd b ks ps/\kd∈cQ/\2<=b/\b<=64/\lT kd ks/\Tb t H/\
 ∀(o:Addr) (os:List Nat) H',Sx t H H'->Tb t H'->H' o=some (.lst (NV os))->KyOrd kd ks os->Q (.ref o) H'
theorem dE (T:Tx K mg t):FnOk P t.wd K mg t.bs CX0 6 (t.f 61) (t.d 61) ["desk"] (yi t):=by
 refine okT (N:=["desk"]) (T.fn 61 rfl) (λH Q hr nd h=>?_)
 ·obtain⟨w,kd,b,ks,ps,rfl,hD,hkd,hb2,hb64,hk,hT,k⟩:=h
  have⟨_,_,us,_,_,_,_,hK,_⟩:=hD;obtain⟨k1,k2,k3,k4⟩:=x5 hkd hK hk;refine⟨_,(ai (au (az (jE T) hr (T.fn 17 rfl) (aj (aH (eW (K:=K)) (az (oq T) hr (T.fn 60 rfl) (aj (qv 0) aa)) ah) aa)))),?_⟩;dsimp only[st0];nofun;refine⟨w,kd,b,ks,ps,rfl,hD,hkd,hb2,hb64,hk,λtt l qs rss wd by' H1 s1 tt1 tl hR hrw=>?_⟩;nofun;have hlt:=hrw.lt k3 hb2 hb64;obtain⟨g1,g2⟩:=hrw.good k3 hb2 hb64;have hn:=hk.2;refine⟨l,qs,rss,wd,rfl,⟨tl,trivial⟩,hR.toU,λr hr=>(g1 r hr).1,by rw[hlt.1,k4];lia,hT.same s1,λo os H2 _ sx T2 to hp hs=>?_⟩;exact k o os H2 ((Sx.of s1).trans sx) T2 to (OrdR.ky ⟨hp,hs⟩ hlt k4)
theorem KAt.th{H:Hp}{k:Kd}{us:List V}(h:KAt H k us):∀z∈us,Th H z:=λz hz=>by
 cases k with
 | nu ns=>
  obtain rfl:us=ns.map N7:=h;obtain⟨x,_,rfl⟩:=E1.mp hz;exact .inl (.inr (.inr (.inl ⟨x,rfl⟩)))
 | te zs=>
  obtain rfl:us=zs.map N9:=h;obtain⟨x,_,rfl⟩:=E1.mp hz;exact .inl (.inr (.inr (.inr ⟨x,rfl⟩)))
 | pa tb=>
  obtain⟨qs,rfl,hP⟩:=h;obtain⟨q,hq,rfl⟩:=E1.mp hz;obtain⟨i,hi,rfl⟩:=F9 hq;have e:=hP.2 i qs[i] (tb[i]'(by rw[<-hP.1];exact hi)) (EF hi) (EF (by rw[<-hP.1];exact hi));exact .inr ⟨qs[i],_,rfl,e,by simp,by simp,λx hx=>by
   simp only[EO,Fl,or_false]at hx;rcases hx with rfl|rfl<;>exact .inr (.inr (.inl ⟨_,rfl⟩))⟩
theorem Th.sx{t:Ad}{H:Hp}{z:V}(h:Th H z)(s:Sx t H H1)(T:Tb t H):Th H1 z:=by
 rcases h with h|⟨q,xs,rfl,e,h0,h2,hs⟩
 ·exact .inl h
 ·exact .inr ⟨q,xs,rfl,s.at T e trivial,h0,h2,hs⟩
def jM(t:Ad)(a:Str):Sp:=λvs H Q _=>∃(w:Addr) (kd:Str) (b:Nat) (ks:List Ky) (ps:List (List Ky)),vs=[.ref w]/\AX t.aG H w kd b ks ps/\kd∈cQ/\2<=b/\b<=64/\lT kd ks/\Tb t H/\
 ∀(os:List Nat) H',Sx t H H'->Tb t H'->KyOrd kd ks os->Q (.str (lV a os)) H'
theorem KyOrd.ord{ks:List Ky}{os:List Nat}(h:KyOrd kd ks os):Ord os ks.length:=Ord.of_perm h.1
theorem ic (T:Tx K mg t):FnOk P t.wd K mg t.bs CX0 7 (t.f 65) (t.d 65) ["desk"] (jM t "order"):=by
 refine okT (N:=["desk"]) (T.fn 65 rfl) (λH Q hr nd h=>?_)
 ·obtain⟨w,kd,b,ks,ps,rfl,hD,hkd,hb2,hb64,hk,hT,k⟩:=h
  refine⟨_,(ai (au (az (ed T) hr (T.fn 58 rfl) (aj (az (dE T) hr (T.fn 61 rfl) (aj (qv 0) aa)) aa)))),?_⟩;dsimp only[st0];nofun;refine⟨w,kd,b,ks,ps,rfl,hD,hkd,hb2,hb64,hk,hT,λo os H1 s1 T1 to hO=>?_⟩;have hn:=hk.2;have hord:=hO.ord;obtain⟨x1,x2⟩:=yh (r:=os) λx hx=>by have:=hord.lt x hx;lia
  nofun;refine⟨o,_,_,rfl,.inl to,x1,x2,by rw[EE,hord.len];lia,λH2 s2=>?_⟩;have:=k os H2 (s1.trans (Sx.of s2)) (T1.same s2) hO;rw[vy]at this;exact this
theorem iO (T:Tx K mg t):FnOk P t.wd K mg t.bs CX0 7 (t.f 66) (t.d 66) ["desk"] (jM t "back"):=by
 refine okT (N:=["desk"]) (T.fn 66 rfl) (λH Q hr nd h=>?_)
 ·obtain⟨w,kd,b,ks,ps,rfl,hD,hkd,hb2,hb64,hk,hT,k⟩:=h
  refine⟨_,(ai (au (az (ed T) hr (T.fn 58 rfl) (aj (az (om T) hr (T.fn 15 rfl) (aj (az (dE T) hr (T.fn 61 rfl) (aj (qv 0) aa)) aa)) aa)))),?_⟩;dsimp only[st0];nofun;refine⟨w,kd,b,ks,ps,rfl,hD,hkd,hb2,hb64,hk,hT,λo os H1 s1 T1 to hO=>?_⟩;have hn:=hk.2;have hord:=hO.ord;nofun;refine⟨o,os,_,rfl,.inl to,hord,hn,λl bs H2 _ s2 tl hB=>?_⟩;have hbo:=hB.ord hord;obtain⟨x1,x2⟩:=yh (r:=bs) λx hx=>by have:=hbo.lt x hx;lia
  nofun;refine⟨l,_,_,rfl,.inl tl,x1,x2,by rw[EE,hbo.len];lia,λH3 s3=>?_⟩;have:=k os H3 (s1.trans (Sx.of (s2.trans s3))) (T1.same (s2.trans s3)) hO;rw[vz,<-yd hord hB]at this;exact this
theorem ie (T:Tx K mg t):FnOk P t.wd K mg t.bs CX0 7 (t.f 67) (t.d 67) ["desk"] (jM t "rings"):=by
 refine okT (N:=["desk"]) (T.fn 67 rfl) (λH Q hr nd h=>?_)
 ·obtain⟨w,kd,b,ks,ps,rfl,hD,hkd,hb2,hb64,hk,hT,k⟩:=h
  refine⟨_,(ai (au (az (fF T) hr (T.fn 59 rfl) (aj (az (ni T) hr (T.fn 16 rfl) (aj (az (dE T) hr (T.fn 61 rfl) (aj (qv 0) aa)) aa)) aa)))),?_⟩;dsimp only[st0];nofun;refine⟨w,kd,b,ks,ps,rfl,hD,hkd,hb2,hb64,hk,hT,λo os H1 s1 T1 to hO=>?_⟩;have hn:=hk.2;have hord:=hO.ord;have hlen:=hord.len;nofun;refine⟨o,os,rfl,.inl to,by lia,λx hx=>by rw[hlen];exact hord.lt x hx,λl qs H2 _ _ _ s2 tl hL=>?_⟩;have hrl:=eM hord;have hfew:(aB os).length<=os.length:=(c7 os os.length).1;nofun;refine⟨l,qs,(aB os).map λr=>r.map b9,rfl,tl,by rw[EE];exact hL.1,λi p ws a c=>?_,by rw[EE];lia,λH3 s3=>?_⟩
  ·rw[EN]at c
   obtain⟨r,er,rfl⟩:=FJ.mp c;have hm:=ES er;obtain⟨x1,x2⟩:=yh (r:=r) λx hx=>by have:=(hrl r hm).2 x hx;lia
   refine⟨_,.inl (hL.2 i p r a er),x1,x2,?_⟩;have:=(c7 os os.length).2 r hm;rw[EE];lia
  ·have:=k os H3 (s1.trans (Sx.of (s2.trans s3))) (T1.same (s2.trans s3)) hO
   rw[vA]at this;exact this
theorem iP (T:Tx K mg t):FnOk P t.wd K mg t.bs CX0 7 (t.f 70) (t.d 70) ["desk"] (jM t "walk"):=by
 refine okT (N:=["desk","walk","moves"]) (T.fn 70 rfl) (λH Q hr nd h=>?_)
 ·obtain⟨w,kd,b,ks,ps,rfl,hD,hkd,hb2,hb64,hk,hT,k⟩:=h
  have⟨dx,la,us,pa,qs,e1,e2,hK,_⟩:=hD;obtain⟨_,kth,_,_⟩:=x5 hkd hK hk;have hth:=kth.th;refine⟨_,(af (aF (i:=1) (qj T.ff (eO T) (hr.mono (by decide)) rfl T.l8 T.fg fM (aj (cF (K:=K) (qv 0)) (aj (az (dE T) hr (T.fn 61 rfl) (aj (qv 0) aa)) aa))))
   (af (pB (i:=2) (N:=["turn","walk"]) (tgs:=["turn"]) (frs:=["walk"]) (ix:=[1])  nd rfl (II rfl) ⟨rfl,by decide +kernel,rfl,by decide +kernel,rfl,rfl,⟨⟨rfl,rfl,_,rfl,rfl⟩,EX⟩,⟨rfl,EX⟩,rfl⟩ rfl (bK rfl T.bQ (aj (jy (qv 1) T.aA T.ef (dI T) (hr.mono (by decide)) T.eh fM ) aa)) (λ_ _ _ _=>(aN (i:=0))) (λ_ _ _ _=>(jy (qv 1) T.aA T.iw (gp T) (hr.mono (by decide)) T.iB fM )))
   (ai (au (az (fF T) hr (T.fn 59 rfl) (aj (qv 2) aa)))))),?_⟩
  dsimp only[st0];nofun;refine⟨w,t.aG,dx,_,_,rfl,e1,T.dc,T.bY,nj _ _ _ _,?_⟩;nofun;refine⟨w,kd,b,ks,ps,rfl,hD,hkd,hb2,hb64,hk,hT,λo os H1 s1 T1 to hO=>?_⟩;have hn:=hk.2;have hord:=hO.ord;have hul:us.length=ks.length:=hK.1;have hm2:=(gC hord).2;have hlt:=qx hord;have e2':=s1.at hT e2 trivial;have th1:∀z∈us,Th H1 z:=λz hz=>Th.sx (hth z hz) s1 hT
  nofun;intro v dv hv hdv hne;have sN:Same H1 (upd (upd H1 dv (.own v)) v (.ins t.ag dv [])):=λb u e=>by
   rw[ak (ao e hv),ak (ao e hdv)];exact e
  refine⟨v,dv,la,o,us,os,ks.length,rfl,ae,.inl (sN _ _ e2'),λz hz=>(th1 z hz).same sN,hul,.inl (sN _ _ to),hord,hn,λtl pl pls us0 H2 hta hpa W2 hul0 kp2=>⟨rfl,?_⟩⟩;have s2:Same H1 H2:=λb u e=>kp2 _ _ (sN _ _ e) (ao e hv)
  have hta0:H1 tl=none:=sN.free hta;nofun;obtain⟨dx2,ob2⟩:=W2.ob;have hno:∀(ta:Addr) (hv:V) (pa:Addr) (m:Int),(rwF ta hv pa m).lookup ("step" : Str)=none/\(rwF ta hv pa m).lookup ("left" : Str)=none:=λta hv pa m=>⟨qC _ _ _ _ (by decide +kernel) (by decide +kernel) (by decide +kernel) (by decide +kernel),qC _ _ _ _ (by decide +kernel) (by decide +kernel) (by decide +kernel) (by decide +kernel)⟩
  refine⟨v,dx2,_,rfl,ob2,(hno _ _ _ _).2,?_⟩;nofun;refine⟨v,tl,pl,pls,us0,.non,i3 os,0,rfl,W2,EU _,?_⟩;rw[Nat.sub_zero];nofun;have hul2:us0.length=ks.length:=hul0;have hpm:pls.length=(i3 os).length:=W2.mv.1;have hvn:H v=none:=Tb.out hT s1 T1 hv;have htn:H tl=none:=Tb.out hT s1 T1 hta0;refine⟨((i3 os).length:Nat),rfl,by lia,by lia,jn (n:=(i3 os).length) (λi ys σ H'=>Sx t H H'/\Tb t H'/\i<=(i3 os).length/\ys=(pls.take i).map Oa/\(∃us hv,us.length=ks.length/\RwK t.ag H' v tl pl pls us hv (i3 os) i)/\∃x,σ=[x,some (Oa v)]) (ar ⋯) (λi ys σ H' h=>by rw[h.2.2.2.1,EE,FN];have:=h.2.2.1;lia) ⟨s1.trans (Sx.of s2),T1.same s2,EU _,rfl,⟨us0,.non,hul2,W2⟩,_,rfl⟩ ?_ ?_⟩
  ·rintro i ys σ H3 hi ⟨s3,T3,_,rfl,⟨us3,hv3,hu3,W3⟩,x,rfl⟩
   obtain⟨dx3,ob3⟩:=W3.ob;nofun;refine⟨v,dx3,_,rfl,ob3,(hno _ _ _ _).1,?_⟩;nofun;refine⟨v,tl,pl,pls,us3,hv3,i3 os,i,rfl,W3,λm hm=>by rw[hu3];exact hlt m hm,by lia,λz=>by lia,λm q H4 em eq W4 K4 tq=>?_⟩;refine Oe hi ⟨λb u n e=>K4 _ _ (s3 b u n e) (λz=>by rw[z,hvn]at e;cases e) (λz=>by rw[z,htn]at e;cases e),?_,hi,by rw[E3,eq,EK];rfl,⟨_,_,by rw[RMv.on_len];exact hu3,W4⟩,_,rfl⟩;exact Tb.kp T3 K4 ob3 W3.tt
  ·rintro ys σ H3 ⟨s3,T3,_,rfl,⟨us3,hv3,hu3,W3⟩,x,rfl⟩ q hq
   rw[ER ⋯];have s4:=(Oc H3).new (o:=.lst (pls.map Oa)) hq;have tq:(upd H3 q (.lst (pls.map Oa))) q=some (.lst (pls.map Oa)):=ae;have M4:MvsAt (upd H3 q (.lst (pls.map Oa))) pls (i3 os):=W3.mv.tk (TupK.of s4);generalize upd H3 q (.lst (pls.map Oa))=H4 at s4 tq M4;nofun;refine⟨q,pls,(i3 os).map mvW,rfl,tq,by rw[EE];exact hpm,λi p ws a c=>?_,by rw[EE];lia,λH5 s5=>?_⟩
   ·rw[EN]at c
    obtain⟨m,em,rfl⟩:=FJ.mp c;obtain⟨x1,x2⟩:=AZ (m:=m) (A0 (hlt m (ES em)) hn);refine⟨_,.inr (M4.2 i p m a em),x1,x2,?_⟩;have e:(mvW m).length<=3:=by cases m<;>(unfold mvW;simp)
    lia
   ·have:=k os H5 (s3.trans (Sx.of (s4.trans s5))) (T3.same (s4.trans s5)) hO
    rw[vB]at this;exact this
theorem yj (t:Ad):(uu t).lookup ("order" : Str)=some (t.f 65)/\(uu t).lookup ("back" : Str)=some (t.f 66)/\(uu t).lookup ("rings" : Str)=some (t.f 67)/\(uu t).lookup ("walk" : Str)=some (t.f 70):=by
 have n:∀a∈(["back","rings","walk"]:List Str),∀b∈(["order","back","rings","ahead","cheapest"]:List Str),a≠b->(a == b)=false:=by decide +kernel
 unfold uu;refine⟨?_,?_,?_,?_⟩
 ·rw[Fg,beq_self_eq_true]
 ·rw[Fg,n "back" (by simp) "order" (by simp) (by decide +kernel),Fg,beq_self_eq_true]
 ·rw[Fg,n "rings" (by simp) "order" (by simp) (by decide +kernel),Fg,n "rings" (by simp) "back" (by simp) (by decide +kernel),Fg,beq_self_eq_true]
 ·rw[Fg,n "walk" (by simp) "order" (by simp) (by decide +kernel),Fg,n "walk" (by simp) "back" (by simp) (by decide +kernel),Fg,n "walk" (by simp) "rings" (by simp) (by decide +kernel),Fg,n "walk" (by simp) "ahead" (by simp) (by decide +kernel),Fg,n "walk" (by simp) "cheapest" (by simp) (by decide +kernel),Fg,beq_self_eq_true]
def DX (K:EG) (t:Ad) (v:V) (sp:Sp):Prop:=(v=.ref (t.f 65)/\sp=jM t "order")\/(v=.ref (t.f 66)/\sp=jM t "back")\/(v=.ref (t.f 67)/\sp=jM t "rings")\/(v=.ref (t.f 70)/\sp=jM t "walk")
theorem rD(K:EG)(t:Ad){a:Str}(h:a∈ask4):∃f,(uu t).lookup a=some f/\DX K t (.ref f) (jM t a):=by
 obtain⟨h1,h2,h3,h4⟩:=yj t;simp only[ask4,EO,Fl,or_false]at h;rcases h with rfl|rfl|rfl|rfl
 ·exact⟨_,h1,.inl ⟨rfl,rfl⟩⟩
 ·exact⟨_,h2,.inr (.inl ⟨rfl,rfl⟩)⟩
 ·exact⟨_,h3,.inr (.inr (.inl ⟨rfl,rfl⟩))⟩
 ·exact⟨_,h4,.inr (.inr (.inr ⟨rfl,rfl⟩))⟩
theorem yk:∀a∈ask4,¬a = "sort":=by decide +kernel
theorem lX (T:Tx K mg t):FnOk P t.wd K mg t.bs CX0 8 (t.f 79) (t.d 79) ["desk","ask","way"] (oo t):=by
 refine okT (N:=["desk","ask","way","answer"]) (T.fn 79 rfl) (λH Q hr nd h=>?_)
 ·obtain⟨w,a,g,d,kd,b,ks,ps,rfl,hD,hkd,hb2,hb64,hk,hp,hv,hd,hA,hT,k⟩:=h
  cases d with
  | row ks=>exact hA.elim
  | pour ks=>exact hA.elim
  | srt y=>exact hA.elim
  | ask y=>
   obtain⟨rfl,rfl⟩:=hv;obtain⟨f,hf,hR⟩:=rD K t hA;refine⟨_,(af (aY (av gj (qv 1) aw (ax _)) (ai dy) aK)
   (af (aF (i:=3) (aH (Ar T.nA) (bT (v:=.ref t.fJ) rfl T.vE rfl) (qv 1)))
   (ai (au (mV (R:=DX K t) (qv 3) (λv sp h=>by
     rcases h with⟨rfl,rfl⟩|⟨rfl,rfl⟩|⟨rfl,rfl⟩|⟨rfl,rfl⟩
     ·exact⟨_,_,_,_,_,rfl,ic T,hr.mono (by decide),(T.fn 65 rfl).2.1.kp,(T.fn 65 rfl).2.2,fM⟩
     ·exact⟨_,_,_,_,_,rfl,iO T,hr.mono (by decide),(T.fn 66 rfl).2.1.kp,(T.fn 66 rfl).2.2,fM⟩
     ·exact⟨_,_,_,_,_,rfl,ie T,hr.mono (by decide),(T.fn 67 rfl).2.1.kp,(T.fn 67 rfl).2.2,fM⟩
     ·exact⟨_,_,_,_,_,rfl,iP T,hr.mono (by decide),(T.fn 70 rfl).2.1.kp,(T.fn 70 rfl).2.2,fM⟩) (aj (qv 0) aa)))))),?_⟩
   dsimp only[st0];nofun;rw[decide_eq_false λz=>yk _ hA (N9.inj z)];nofun;refine⟨_,f,rfl,rfl,hf,?_⟩;nofun;refine⟨_,hR,?_⟩;nofun;exact⟨w,kd,b,ks,ps,rfl,hD,hkd,hb2,hb64,hk,hT,λos H1 s1 T1 hO=>k _ H1 s1 T1 ⟨os,hO,rfl⟩⟩
def C8(t:Ad):Sp:=λvs H Q _=>∃(text:Str) (rows:List Str) (kd:Str) (b:Nat) (ds:List Dd),vs=[.str text]/\TextOk text rows kd b ds/\Tb t H/\(∀d∈ds,d.deed\/okA d)/\∀(x:Addr) (as:List Str) H',Sx t H H'->Tb t H'->H' x=some (.lst (as.map N9))->AnsF kd b [] [] ds as->Q (.ref x) H'
theorem fH{kd:Str}:∀{ds:List Dd}{ps:List (List Ky)},(∀p∈ps,lT kd p)->(∀d∈ds,d.ok kd)->∀p∈ee ps ds,lT kd p
 | [],_,h,_=>h
 | .row k2::ds,_,h,g=>fH (ds:=ds) h λd hd=>g d (E4 _ hd)
 | .pour k2::ds,_,h,g=>fH (ds:=ds) (λp hp=>by
   have:=g _ (Fn ..);rcases Fq.mp hp with z|z
   ·exact h p z
   ·rw[Fu.mp z];exact⟨this.1,this.2.1⟩) λd hd=>g d (E4 _ hd)
 | .ask _::ds,_,h,g=>fH (ds:=ds) h λd hd=>g d (E4 _ hd)
 | .srt _::ds,_,h,g=>fH (ds:=ds) h λd hd=>g d (E4 _ hd)
theorem dj:∀(ds:List Dd) (ps:List (List Ky)),(ee ps ds).length<=ps.length+ds.length
 | [],_=>EI _
 | .row _::ds,ps=>FB (dj ds ps) (by simp)
 | .pour k::ds,ps=>FB (dj ds (ps++[k])) (by simp;lia)
 | .ask _::ds,ps=>FB (dj ds ps) (by simp)
 | .srt _::ds,ps=>FB (dj ds ps) (by simp)
theorem A1 {H:Hp}{w:Str}{g:V}{d:Dd}(h:DdV H w g d) (hd:d.ok kd) (hn:¬d.deed):¬w = "row"/\¬w = "pour":=by
 cases d with
 | row ks=>exact(hn trivial).elim
 | pour ks=>exact(hn trivial).elim
 | ask a=>
  obtain⟨rfl,_⟩:=h;exact⟨λz=>absurd (G8.mpr hd) (by rw[z,kL.1];decide),λz=>absurd (G8.mpr hd) (by rw[z,kL.2];decide)⟩
 | srt a=>rw[h.1];decide +kernel
theorem A3 (T:Tx K mg t):FnOk P t.wd K mg t.bs CX0 9 (t.f 80) (t.d 80) ["text"] (C8 t):=by
 refine okT (N:=["text","kind","base","deeds","desk","answers","word","given"]) (T.fn 80 rfl) (λH Q hr nd h=>?_)
 ·obtain⟨text,rows,kd,b,ds,rfl,hok,hT,hds,k⟩:=h
  refine⟨_,(af (ll (az (kN T) hr (T.fn 78 rfl) (aj (qv 0) aa)) (c6 (K:=K) (n:=2) rfl (aE (c6 (K:=K) (n:=2) rfl (aE (aN (i:=1)) (aE (aN (i:=2)) bZ))) (aE (aN (i:=3)) bZ))))
   (af (aF (i:=4) (qj T.iu (gq T) (hr.mono (by decide)) rfl T.yE T.iA fM (aj (qv 1) (aj (qv 2) aa))))
   (af (aF (i:=5) (aP aa))
   (af (cf Fp rfl (bx (K:=K) (qv 3)) (c6 (K:=K) (n:=2) rfl (aE (aN (i:=6)) (aE (aN (i:=7)) bZ))) (ai (aY (av gj (qv 6) aw (ax _)) (ai (dW (K:=K) (qv 4) (qv 7))) (ai (aY (av gj (qv 6) aw (ax _)) (ai (bf (aO (K:=K) (cF (K:=K) (qv 4)) (aj (qv 7) aa)))) (ai (bf (aO (K:=K) (qv 5) (aj (az (lX T) hr (T.fn 79 rfl) (aj (qv 4) (aj (qv 6) (aj (qv 7) aa)))) aa)))))))))
   (ai (au (qv 5))))))),?_⟩
  dsimp only[st0];nofun;refine⟨text,rows,kd,b,ds,rfl,hok,λx h d us H1 s1 tx th td D=>?_⟩;refine⟨x,_,rfl,N6 tx,rfl,_,_,rfl,cu th ?_⟩;dsimp only[F7];refine⟨_,_,rfl,rfl,?_⟩;dsimp only[F7];nofun;intro w dx hw hdx hne;have sN:Same H1 (upd (upd H1 dx (.own w)) w (.ins t.aG dx [])):=λb u e=>by
   rw[ak (ao e hw),ak (ao e hdx)];exact e
  refine⟨w,dx,kd,b,rfl,ae,λla pa H2 hla hpa nlp hd tla tpa kp=>⟨rfl,?_⟩⟩;have s2:Same H1 H2:=λc o e=>kp _ _ (sN _ _ e) (ao e hw)
  have hla:=sN.free hla;have hpa:=sN.free hpa;nofun;refine⟨aI (by simp),λan han=>?_⟩;have s3:=(Oc H2).new (o:=.lst []) han;have ta:(upd H2 an (.lst [])) an=some (.lst (([]:List Str).map N9)):=ae;have hand:H1 an=none:=s2.free han;have X3:DkX t.aG H1 (upd H2 an (.lst [])) w an dx la pa [] [] kd b [] []:=⟨s3 _ _ hd,s3 _ _ tla,⟨rfl,λi v k a=>by simp at a⟩,s3 _ _ tpa,⟨rfl,λi q k a=>by simp at a⟩,ao tla han,nlp,ao tpa han,hw,hand,hpa,λq hq=>nomatch hq⟩;generalize upd H2 an (.lst [])=H3 at s3 ta X3;have s13:=s2.trans s3;have hul:us.length=ds.length:=D.1;have hT1:=hT.same s1;have hT3:=hT1.same s13;have hdl:ds.length<=200:=by
   have e1:=congrArg GX hok.all;have e2:=List.length_filter_le (λr:Str=>decide (¬r = "")) rows;have:=hok.few;simp only[Fk,EE]at e1;lia
  nofun;refine⟨d,rfl,⟨_,N4 (s13 _ _ td)⟩,eE (a:=d) (xs:=us.map Oa) (λi σ H'=>Sx t H1 H'/\Tb t H'/\(∃la us qs,DkX t.aG H1 H' w an dx la pa us qs kd b (hX [] (ds.take i)) (ee [] (ds.take i)))/\(∃as:List Str,H' an=some (.lst (as.map N9))/\as.length<=i/\AnsF kd b [] [] (ds.take i) as)/\∃v1 v2,σ=[some (N9 text),some (N9 kd),some (N7 b),some (Oa d),some (Oa w),some (Oa an),v1,v2]) ⟨Sx.of s13,hT3,⟨_,_,_,X3⟩,⟨[],ta,EI _,rfl⟩,_,_,rfl⟩ (λi σ H' _ h=>N4 (h.1.at hT1 td trivial)) ?_ ?_⟩
  ·rintro i x σ H4 hx ⟨s4,T4,⟨la,us',qs',X4⟩,⟨as,ta4,hal,hAn⟩,v1,v2,rfl⟩
   obtain⟨q,rfl,eq,_,hi⟩:=aX hx;have edd:ds[i]? = some (ds[i]'⋯):=EF _;have hmem:=ES edd;have hdk:=hok.ok _ hmem;obtain⟨wd,g,e1,e2⟩:=D.2 i q _ eq edd;have e1:=s4.at hT1 e1 trivial;have hd0:=hds _ hmem;have etk:ds.take (i+1)=ds.take i++[ds[i]'⋯]:=by rw[E3,edd];rfl
   generalize ds[i]'⋯=dd at edd hdk e2 hd0 etk;rw[etk];refine cu e1 ?_;dsimp only[F7];nofun;by_cases hnd:dd.deed
   rotate_left
   ·obtain⟨nr,np⟩:=A1 e2 hdk hnd
    rw[decide_eq_false λu=>nr (N9.inj u)];nofun;rw[decide_eq_false λu=>np (N9.inj u)];nofun;refine⟨aZ ta4,?_⟩;nofun;have e2':DdV H4 wd g dd:=by
     cases dd with
     | row ks=>exact(hnd trivial).elim
     | pour ks=>exact(hnd trivial).elim
     | ask a=>exact e2
     | srt a=>exact e2
    refine⟨w,wd,g,dd,kd,b,_,_,rfl,X4.at,hok.kdm,hok.b2,hok.b64,ia ⟨(λk hk=>nomatch hk),EU _⟩ (λd hd=>hok.ok d (Ir hd)),fH (λp hp=>nomatch hp) (λd hd=>hok.ok d (Ir hd)),e2',hdk,hd0.resolve_left hnd,T4,λs H5 s5 T5 hA=>?_⟩;have ta5:=s5.at T4 ta4 trivial;have X5:=X4.keep λa o e ho=>s5.at T4 e ho
    nofun;refine aM ta5 (by rw[EE];exact ar ⋯) ?_;nofun;refine⟨(s4.trans s5).own hT1 X4.ba,T5.upd ta5 trivial,⟨la,us',qs',?_⟩,⟨as++[s],by rw[ae,EK];rfl,by simp;lia,?_⟩,_,_,rfl⟩
    ·rw[b7,cq]
     have:=X5.app (ys:=as.map N9++[N9 s]) ta5;cases dd with
     | row ks=>exact(hnd trivial).elim
     | pour ks=>exact(hnd trivial).elim
     | ask a=>exact this
     | srt a=>exact this
    ·refine hAn.app ?_
     cases dd with
     | row ks=>exact(hnd trivial).elim
     | pour ks=>exact(hnd trivial).elim
     | ask a=>exact⟨s,[],rfl,hA,rfl⟩
     | srt a=>exact⟨s,[],rfl,hA,rfl⟩
   cases dd with
   | row k2=>
    obtain⟨rfl,l,vs,rfl,e3,e4⟩:=e2;rw[decide_eq_true rfl];nofun;refine⟨w,t.aG,dx,_,rfl,X4.ins,T.dc,T.bY,by simp[dkF],?_⟩;rw[yg];have X5:=X4.setl e3 (s4.at hT1 e3 trivial) (e4.tup λ_ _ e=>s4.at hT1 e trivial);have naw:an≠w:=λz=>by have:=X4.ins;rw[<-z,ta4]at this;cases this
    nofun;refine⟨s4.own hT1 X4.bw,T4.upd X4.ins trivial,⟨l,vs,qs',by rw[b7,cq];exact X5⟩,⟨as,by rw[ak naw];exact ta4,by lia,?_⟩,_,_,rfl⟩
    ·have:=hAn.app (es:=[.row k2]) (bs:=[]) rfl
     rwa [Gj]at this
   | pour k2=>
    obtain⟨rfl,l,vs,rfl,e3,e4⟩:=e2;rw[decide_eq_false (show ¬N9 "pour" = N9 "row" from λz=>absurd (N9.inj z) (by decide +kernel))];nofun;rw[decide_eq_true rfl];nofun;refine⟨w,t.aG,dx,_,_,rfl,X4.ins,T.dc,T.bM,uA _ _ _ _,?_⟩;nofun;refine⟨aZ X4.prs,?_⟩;nofun;have hq:=dj (ds.take i) [];rw[<-X4.pou.1,FN,GV]at hq;refine aM X4.prs (by rw[EE];exact ar ⋯) ?_;have X5:=X4.add e3 (s4.at hT1 e3 trivial) (e4.tup λ_ _ e=>s4.at hT1 e trivial);nofun;refine⟨s4.own hT1 X4.bp,T4.upd X4.prs trivial,⟨la,us',qs'++[l],by rw[b7,cq];exact X5⟩,⟨as,by rw[ak (E7 X4.npn)];exact ta4,by lia,?_⟩,_,_,rfl⟩
    ·have:=hAn.app (es:=[.pour k2]) (bs:=[]) rfl
     rwa [Gj]at this
   | ask a=>exact hnd.elim
   | srt a=>exact hnd.elim
  ·rintro σ H4 ⟨s4,T4,_,⟨as,ta4,_,hAn⟩,v1,v2,rfl⟩
   rw[EE,hul,ER (EI _)]at hAn;nofun;exact k an as H4 ((Sx.of s1).trans s4) T4 ta4 hAn
def yl:Sp:=λvs H Q _=>∃(p:Addr),vs=[.ref p]/\Tape H p/\∀(r:Nat) H',r<=12->Stp p H H'->Q (.int r) H'
theorem ym (T:Tx K mg t):FnOk P t.wd K mg t.bs CX0 2 (t.f 83) (t.d 83) ["_law_tape_here"] yl:=by
 refine okT (N:=["_law_tape_here"]) (T.fn 83 rfl) (λH Q hr nd h=>?_)
 ·obtain⟨p,rfl,hT,k⟩:=h
  refine⟨_,(ai (au (aH (aT (K:=K)) (aP (aj (az (bz T) hr (T.fn 82 rfl) (aj (qv 0) (aj ah aa))) (aj (aC eV ah (az (bz T) hr (T.fn 82 rfl) (aj (qv 0) (aj ah aa)))) aa))) (aQ pA (by rfl) T.kW kz (aj (dQ gj (az (bz T) hr (T.fn 82 rfl) (aj (qv 0) (aj ah aa))) ah (ax _)) aa))))),?_⟩;dsimp only[st0];nofun;refine⟨p,7,rfl,hT,by decide,by decide,λr1 H1 a0 a1 S1=>?_⟩;nofun;refine⟨p,6,rfl,S1.tape,by decide,by decide,λr2 H2 b0 b1 S2=>?_⟩;nofun;refine⟨aI (by simp),λq hq=>?_⟩;nofun;have S12:=S1.trans S2;refine⟨p,8,rfl,(S12.new hq).tape,by decide,by decide,λr3 H3 c0 c1 S3=>?_⟩;nofun;obtain⟨v,e,hv⟩:=dP (xs:=[N7 r1,N7 (7+r2)]) (r:=if decide (N7 r3=N7 0)=true then 1 else 0) (by split<;>lia) (by simp only[Fk,GV];split<;>lia);refine bq (N4 (S3.keep q _ ae (S12.tape.ne hq))) e ?_;simp only[EO,Fl,or_false]at hv;rcases hv with rfl|rfl
  ·have:=k r1.toNat H3 ⋯ ((S12.new hq).trans S3)
   rw[Hl a0]at this;exact this
  ·have:=k (7+r2).toNat H3 ⋯ ((S12.new hq).trans S3)
   rw[Hl ⋯]at this;exact this
noncomputable def BIG:Int:=9690712164777231700912800
noncomputable def Ky.worth:Ky->V
 | .num n=>.int n
 | .par n b=>.int (n*(BIG / b))
 | .txt w=>.str w
theorem yn{x:Int}{g:Nat}(hc:0<c)(e:g=Gn x.natAbs c):Gn (x / (g:Int)).natAbs (c / g)=1/\(x / (g:Int)).natAbs<=x.natAbs/\0<g/\g∣c:=by
 have hd1:g∣x.natAbs:=by rw[e];exact Lf ..
 have hd2:g∣c:=by rw[e];exact I0 ..
 have hg:0<g:=Nat.pos_of_dvd_of_pos hd2 hc;obtain⟨y,hy⟩:=Int.ofNat_dvd_left.mpr hd1;have hy':x / (g:Int)=y:=by rw[hy];exact Int.mul_ediv_cancel_left _ ⋯
 have hn:x.natAbs=g*y.natAbs:=by rw[hy,LU,IJ]
 refine⟨?_,?_,hg,hd2⟩
 ·rw[hy']
  have e2:y.natAbs=x.natAbs / g:=by rw[hn,Hx _ hg]
  rw[e2,e];exact Nat.coprime_div_gcd_div_gcd (by rw[<-e];exact hg)
 ·rw[hy',hn]
  exact JJ _ hg
theorem mul_one(z:Str):MulOk z 1/\Je z 1=z:=⟨⟨by decide,λ_ h=>absurd h (by simp),λ_ h=>absurd h (by simp)⟩,by unfold Je;rw[if_neg (by decide),if_pos (by simp)]⟩
theorem yo(z:Str):MulOk z 0/\Je z 0=GA:=⟨⟨by decide,λh=>absurd (by decide) h,λh=>absurd (by decide) h⟩,by unfold Je;rw[if_pos (by decide)]⟩
theorem rE(x:Str):x++GA=x:=bV (by show(x.cps++#[]).toList=_;simp)
def yp:Sp:=λvs H Q _=>∃(n:Int) (c:Nat),vs=[.int n,.int c]/\1<=c/\c<=60/\n.natAbs<10 ^ 18/\∀(q:Addr) (n' b':Int),hU n' b'->H q=none->Q (.ref q) (upd H q (.tup [.str (fX n' b'),.int (n'*(BIG / b'))]))
theorem yq (T:Tx K mg t):FnOk P t.wd K mg t.bs CX0 1 (t.f 86) (t.d 86) ["_law_top","_law_bottom"] yp:=by
 refine okT (N:=["_law_top","_law_bottom","_law_one","_law_other"]) (T.fn 86 rfl) (λH Q hr nd h=>?_)
 ·obtain⟨x,c,rfl,h1,h60,hx,q⟩:=h
  refine⟨_,(af (ka rfl nd (i:=2) (j:=3) rfl rfl (by decide) rfl rfl (aj (aq mn (by rfl) T.l9 mZ (aj (qv 0) aa)) (aj (qv 1) aa)))
   (af (eG Fp (av nO (qv 3) ah (ax _)) (ai (ka rfl nd (i:=2) (j:=3) rfl rfl (by decide) rfl rfl (aj (qv 3) (aj (aC iK (qv 2) (qv 3)) aa)))))
   (af (ka rfl nd (i:=0) (j:=1) rfl rfl (by decide) rfl rfl (aj (aC dz (qv 0) (qv 2)) (aj (aC dz (qv 1) (qv 2)) aa)))
   (ai (au (bP (aj (aC bF (aQ dU (by rfl) T.fk dH (aj (qv 0) aa)) (aC vc (aC bF aw (aQ dU (by rfl) T.fk dH (aj (qv 1) aa))) (aQ pA (by rfl) T.kW kz (aj (dQ nO (qv 1) ah (ax _)) aa)))) (aj (aC fP (qv 0) (aC dz ah (qv 1))) aa)))))))),?_⟩
  dsimp only[st0];nofun;have ea:(if x<0 then -x else x)=((x.natAbs:Nat):Int):=by split<;>lia
  try rw[ea]
  refine⟨λm σ H'=>H'=H/\∃(g l:Nat),σ=[some (N7 x),some (N7 c),some (N7 g),some (N7 l)]/\Gn g l=Gn x.natAbs c/\l=m,⟨c,rfl,x.natAbs,c,rfl,rfl,rfl⟩,?_⟩;rintro m σ H' ⟨rfl,g,l,rfl,e,rfl⟩;nofun;refine br (λh1=>?_) (λh1=>?_)
  ·refine⟨_,λ_ _ z=>z,?_⟩
   nofun;have hl:0<l:=by lia
   rw[<-Jq];exact⟨g % l,Hu _ hl,rfl,l,g % l,rfl,by rw[mz hl,e],rfl⟩
  ·have hl:l=0:=by lia
   subst hl;rw[Kx]at e;obtain⟨f1,f2,hg,hd2⟩:=yn (x:=x) (by lia:0<c) e;nofun;have hgc:g<=c:=IS ⋯ hd2;have hlog:ph x (g:Int):=⟨by lia,FC (Lo _) ⋯⟩;have hlog2:ph (c:Int) (g:Int):=⟨by lia,FC (Lo _) ⋯⟩;refine Dv hlog ?_;nofun;rw[<-Gu];have hb1:0<c / g:=Nat.div_pos hgc hg;have hb2:c / g<=60:=FB (Lz ..) h60;have hP:hU (x / (g:Int)) ((c / g:Nat):Int):=⟨by lia,by lia,by lia,by rw[IJ];exact f1⟩;have hN:(x / (g:Int)).natAbs<10 ^ 18:=by lia
   generalize x / (g:Int)=n' at hN hP;generalize c / g=b' at hb1 hb2 hP;refine⟨n',rfl,rq hN,?_⟩;nofun;refine⟨(b':Int),rfl,rq ⋯,?_⟩;nofun;refine⟨_,_,rfl,rfl,by rw[Oj];have:=cP (n:=(b':Int)) ⋯;have e1:(("/" : Str)).length=1:=(by decide +kernel);lia,?_⟩;nofun;have hl1:=cP hN;have hl2:=cP (n:=(b':Int)) ⋯;have e1:(("/" : Str)).length=1:=by decide +kernel
   by_cases hb:1<b'
   ·obtain⟨m1,m2⟩:=mul_one (Fy "/"++Fy (toString (b':Int)))
    refine⟨_,1,rfl,by rw[decide_eq_true (show(1:Int)<(b':Int)by lia)];rfl,m1,?_⟩;rw[m2];refine⟨_,_,rfl,rfl,by rw[Oj,strLen_append];lia,?_⟩;nofun;refine⟨aI (by simp),λp hp=>?_⟩;have:=q p n' b' hP hp;unfold fX at this;rw[if_neg ⋯]at this;rw[<-FD];exact this
   ·obtain rfl:b'=1:=by lia
    obtain⟨m1,m2⟩:=yo (Fy "/"++Fy (toString ((1:Nat):Int)));refine⟨_,0,rfl,rfl,m1,?_⟩;rw[m2];refine⟨_,_,rfl,rfl,by rw[Oj];show _+0<=_;lia,?_⟩;rw[rE];nofun;refine⟨aI (by simp),λp hp=>?_⟩;have:=q p n' 1 hP hp;unfold fX at this;rw[if_pos rfl]at this;exact this
noncomputable def stems:List Str:=["","a","ab","abc","z","zz","b",Je "m" 19]
noncomputable def tails:List Str:=["","a","z","xy"]
noncomputable instance (w:Str):Decidable (i8 w):=by unfold i8;infer_instance
theorem ot:∀s∈stems,∀y∈tails,i8 (JF (s++y) none (some 20))/\(s++y).length<=30:=by decide +kernel
def A4:Sp:=λvs H Q _=>∃(p:Addr) (kd:Str),vs=[.ref p,.str kd]/\Tape H p/\kd∈cQ/\∀(q:Addr) (k:Ky) H',k.ok kd->Stp p H H'->H' q=some (.tup [.str k.word,k.worth])->Q (.ref q) H'
theorem A5 (T:Tx K mg t):FnOk P t.wd K mg t.bs CX0 2 (t.f 85) (t.d 85) ["_law_tape_here","_law_kind"] A4:=by
 refine okT (N:=["_law_tape_here","_law_kind","_law_stem","_law_word","_law_way","_law_top"]) (T.fn 85 rfl) (λH Q hr nd h=>?_)
 ·obtain⟨p,kd,rfl,hT,hkd,k⟩:=h
  refine⟨_,(af (aY (av gj (qv 1) aw (ax _)) (af (aF (i:=2) (aH (aT (K:=K)) (aP (aj aw (aj aw (aj aw (aj aw (aj aw (aj aw (aj aw (aj (aC vc aw ah) aa))))))))) (az (bz T) hr (T.fn 82 rfl) (aj (qv 0) (aj ah aa)))))
   (af (aF (i:=3) (dw Ao (aC bF (qv 2) (aH (aT (K:=K)) (aP (aj aw (aj aw (aj aw (aj aw aa))))) (az (bz T) hr (T.fn 82 rfl) (aj (qv 0) (aj ah aa))))) gQ (dr ah)))
   (ai (au (bP (aj (aC bF aw (qv 3)) (aj (qv 3) aa))))))) aK)
   (af (aF (i:=4) (az (bz T) hr (T.fn 82 rfl) (aj (qv 0) (aj ah aa))))
   (af (aF (i:=5) (aC fP (az (bz T) hr (T.fn 82 rfl) (aj (qv 0) (aj ah aa))) (aH (aT (K:=K)) (aP (aj ah (aj (j9 kb ah) aa))) (az (bz T) hr (T.fn 82 rfl) (aj (qv 0) (aj ah aa))))))
   (af (aY (av gj (qv 4) ah (ax _)) (ai (aF (i:=5) (aC fP (aC fO (aC fO (aC wW ah ah) ah) (az (bz T) hr (T.fn 82 rfl) (aj (qv 0) (aj ah aa)))) (aH (aT (K:=K)) (aP (aj ah (aj (j9 kb ah) aa))) (az (bz T) hr (T.fn 82 rfl) (aj (qv 0) (aj ah aa))))))) aK)
   (af (aY (av gj (qv 4) ah (ax _)) (ai (aF (i:=5) (aC fO (az (bz T) hr (T.fn 82 rfl) (aj (qv 0) (aj (aC wW ah ah) aa))) ah))) aK)
   (af (aY (av gj (qv 1) aw (ax _)) (ai (au (bP (aj (aQ dU (by rfl) T.fk dH (aj (qv 5) aa)) (aj (qv 5) aa))))) aK)
   (ai (au (az (yq T) hr (T.fn 86 rfl) (aj (qv 5) (aj (aH (aT (K:=K)) (aP (aj ah (aj ah (aj ah (aj (aC eV ah (az (bz T) hr (T.fn 82 rfl) (aj (qv 0) (aj ah aa)))) (aj ah aa)))))) (az (bz T) hr (T.fn 82 rfl) (aj (qv 0) (aj ah aa)))) aa))))))))))),?_⟩
  dsimp only[st0];nofun;by_cases htx:kd = "text"
  ·subst htx
   rw[decide_eq_true rfl];nofun;refine⟨_,19,rfl,rfl,⟨by decide +kernel,by decide +kernel,by decide +kernel⟩,?_⟩;nofun;refine⟨aI (by simp),λq hq=>?_⟩;have S1:=(Stp.refl hT).new (o:=.lst (stems.map N9)) hq;nofun;refine⟨p,8,rfl,S1.tape,by decide,by decide,λr H1 a0 a1 S2=>?_⟩;obtain⟨v,e,hv⟩:=dP (xs:=stems.map N9) a0 a1;refine bq (N4 (S2.keep q _ ae (hT.ne hq))) e ?_;obtain⟨z,hz,rfl⟩:=E1.mp hv;have S3:=S1.trans S2;clear S1 S2 e hv a0 a1;nofun;refine⟨aI (by simp),λq hq=>?_⟩;have S4:=S3.new (o:=.lst (tails.map N9)) hq;nofun;refine⟨p,4,rfl,S4.tape,by decide,by decide,λr H2 a0 a1 S5=>?_⟩;obtain⟨v,e,hv⟩:=dP (xs:=tails.map N9) a0 a1;refine bq (N4 (S5.keep q _ ae (S3.tape.ne hq))) e ?_;obtain⟨y,hy,rfl⟩:=E1.mp hv;have S6:=S4.trans S5;clear S4 S5 e hv a0 a1;obtain⟨f1,f2⟩:=ot z hz y hy;refine⟨_,_,rfl,rfl,by rw[Oj,<-strLen_append];lia,?_⟩;nofun;refine⟨20,rfl,?_⟩;refine⟨_,rfl,by rw[Oj];lia,?_⟩;generalize JF (z++y) none (some 20)=wd at f1;nofun;have e1:(("'" : Str)).length=1:=by decide +kernel
   refine⟨_,_,rfl,rfl,by rw[Oj];have:=f1.1;lia,?_⟩;nofun;exact⟨aI (by simp),λq hq=>k q (.txt wd) _ ⟨rfl,f1⟩ (S6.new hq) ae⟩
  have hkd':kd = "number"\/kd = "part":=by rcases gD hkd with h | h | h;exact .inl h;exact .inr h;exact(htx h).elim
  rw[decide_eq_false λu=>htx (N9.inj u)];nofun;refine⟨p,6,rfl,hT,by decide,by decide,λwy H1 w0 w1 S1=>?_⟩;nofun;refine⟨p,9,rfl,S1.tape,by decide,by decide,λa H2 a0 a1 S2=>?_⟩;nofun;have S12:=S1.trans S2;have sgn:∀{H3 H4:Hp}{q:Addr}{r:Int},Stp p H H3->H3 q=none->0<=r->r<2->Stp p (upd H3 q (.lst [N7 1,N7 (-1)])) H4->∃z:Int,(z=1\/z=-1)/\H4 q=some (.lst [N7 1,N7 (-1)])/\atI [N7 1,N7 (-1)] r=some (N7 z)/\Stp p H H4:=λ{H3 H4 q r} S hq r0 r1 S'=>by
   obtain⟨v,e,hv⟩:=dP (xs:=[N7 1,N7 (-1)]) r0 r1;simp only[EO,Fl,or_false]at hv;rcases hv with rfl|rfl
   ·exact⟨1,.inl rfl,S'.keep q _ ae (S.tape.ne hq),e,(S.new hq).trans S'⟩
   ·exact⟨-1,.inr rfl,S'.keep q _ ae (S.tape.ne hq),e,(S.new hq).trans S'⟩
  refine⟨aI (by simp),λq hq=>?_⟩;nofun;refine⟨p,2,rfl,(S12.new hq).tape,by decide,by decide,λr H3 r0 r1 S3=>?_⟩;obtain⟨z,hz,tz,ez,S4⟩:=sgn S12 hq r0 r1 S3;refine bq (N4 tz) ez ?_;nofun;apply yH (α:=Int) (S:=λn H'=>n.natAbs<10 ^ 18/\Stp p H H');case hA=>
   intro key;by_cases hw:wy=0
   ·rw[decide_eq_true (congrArg N7 hw)]
    nofun;refine⟨p,3,rfl,S4.tape,by decide,by decide,λb H5 b0 b1 S5=>?_⟩;nofun;refine⟨aI (by simp),λq2 hq2=>?_⟩;nofun;have S6:=S4.trans S5;refine⟨p,2,rfl,(S6.new hq2).tape,by decide,by decide,λr2 H7 c0 c1 S7=>?_⟩;obtain⟨z2,hz2,tz2,ez2,S8⟩:=sgn S6 hq2 c0 c1 S7;refine bq (N4 tz2) ez2 ?_;nofun;have hb:((1000000000000000000 - 1 - b)*z2).natAbs<10 ^ 18:=by rcases hz2 with rfl|rfl<;>lia
    generalize e7:(1000000000000000000 - 1 - b)*z2=n at hb;generalize e8:H7=H4;exact key n H4 ⟨hb,e8▸S8⟩
   ·rw[decide_eq_false λu=>hw (N7.inj u)]
    nofun;have hb:(a*z).natAbs<10 ^ 18:=by rcases hz with rfl|rfl<;>lia
    generalize e7:a*z=n at hb;generalize e8:H3=H4;exact key n H4 ⟨hb,e8▸S4⟩
  case hB=>
   clear S1 S2 S12 S3 S4 tz ez hz;rintro n H4 ⟨hn,S4⟩;apply yH (α:=Int) (S:=λn H'=>n.natAbs<10 ^ 18/\Stp p H H');case hA=>
    intro key;by_cases hw:wy=1
    ·rw[decide_eq_true (congrArg N7 hw)]
     nofun;refine⟨p,_,rfl,S4.tape,by decide,by decide,λb H5 b0 b1 S5=>?_⟩;have b1:b<10 ^ 6:=b1;nofun;have hb:(b - 500000).natAbs<10 ^ 18:=by lia
     generalize e7:b - 500000=n at hb;generalize e8:H5=H6;exact key n H6 ⟨hb,e8▸S4.trans S5⟩
    ·rw[decide_eq_false λu=>hw (N7.inj u)]
     nofun;generalize e7:n=n2;generalize e8:H4=H6;exact key n2 H6 ⟨e7▸hn,e8▸S4⟩
   case hB=>
    clear S4 hn;rintro n H4 ⟨hn,S4⟩;nofun;rcases hkd' with rfl|rfl
    ·rw[decide_eq_true rfl]
     nofun;refine⟨n,rfl,rq hn,?_⟩;nofun;exact⟨aI (by simp),λq hq=>k q (.num n) _ ⟨rfl,hn⟩ (S4.new hq) ae⟩
    ·rw[decide_eq_false λu=>absurd (N9.inj u) fc.2.2.1]
     nofun;refine⟨p,60,rfl,S4.tape,by decide,by decide,λc H5 c0 c1 S5=>?_⟩;nofun;refine⟨aI (by simp),λq hq=>?_⟩;nofun;have S6:=S4.trans S5;refine⟨p,5,rfl,(S6.new hq).tape,by decide,by decide,λr2 H7 d0 d1 S7=>?_⟩;obtain⟨v,e,hv⟩:=dP (xs:=[N7 1,N7 2,N7 3,N7 (1+c),N7 60]) d0 d1;refine bq (N4 (S7.keep q _ ae (S6.tape.ne hq))) e ?_;obtain⟨bb,rfl,hb1,hb2⟩:∃bb:Nat,v=N7 (bb:Nat)/\1<=bb/\bb<=60:=by
      simp only[EO,Fl,or_false]at hv;rcases hv with rfl|rfl|rfl|rfl|rfl
      ·exact⟨1,rfl,by decide,by decide⟩
      ·exact⟨2,rfl,by decide,by decide⟩
      ·exact⟨3,rfl,by decide,by decide⟩
      ·exact⟨(1+c).toNat,by rw[Hl ⋯],by lia,by lia⟩
      ·exact⟨60,rfl,by decide,by decide⟩
     have S8:=(S6.new hq).trans S7;nofun;exact⟨n,bb,rfl,hb1,hb2,hn,λq n' b' hP hq=>k q (.par n' b') _ ⟨rfl,hP⟩ (S8.new hq) ae⟩
def KysT(H:Hp)(qs:List Addr)(ks:List Ky):Prop:=qs.length=ks.length/\∀(i:Nat) q k,qs[i]? = some q->ks[i]? = some k->H q=some (.tup [.str k.word,k.worth])
theorem KysT.tup{H H1:Hp}{qs:List Addr}{ks:List Ky}(h:KysT H qs ks)(s:∀b xs,H b=some (.tup xs)->H1 b=some (.tup xs)):KysT H1 qs ks:=⟨h.1,λi q k a b=>s _ _ (h.2 i q k a b)⟩
theorem KysT.same{H:Hp}{ks:List Ky}(h:KysT H qs ks)(s:Same H H1):KysT H1 qs ks:=h.tup λ_ _ e=>s _ _ e
theorem ig{H:Hp}(S:Stp p H H1)(T:Tape H p):∀b xs,H b=some (.tup xs)->H1 b=some (.tup xs):=λb xs e=>S.keep b _ e (λz=>by obtain⟨x,y,w,u,_⟩:=T;rw[z,u]at e;cases e)
theorem KysT.snoc{H:Hp}{ks:List Ky}{k:Ky}(h:KysT H qs ks)(e:H q=some (.tup [.str k.word,k.worth])):KysT H (qs++[q]) (ks++[k]):=by
 refine⟨by simp[h.1],λi q' k' a b=>?_⟩;by_cases hk:i<qs.length
 ·rw[E6 hk]at a
  rw[E6 (by rw[<-h.1];exact hk)]at b;exact h.2 i q' k' a b
 ·have e:i=qs.length:=by
   have:=(EM.mp a).1;simp at this;lia
  subst e;rw[E8 (EI _),G7]at a;rw[E8 (by rw[h.1];exact EI _),show qs.length - ks.length=0 by have:=h.1;lia]at b;cases a;cases b;assumption
def yr:Sp:=λvs H Q _=>∃(p:Addr) (kd:Str) (n:Nat),vs=[.ref p,.str kd,.int n]/\Tape H p/\kd∈cQ/\n<=12/\∀(l:Addr) (qs:List Addr) (ks:List Ky) H',ks.length<=n->(∀k∈ks,k.ok kd)->KysT H' qs ks->Stp p H H'->H l=none->H' l=some (.lst (qs.map Oa))->Q (.ref l) H'
theorem yt (T:Tx K mg t):FnOk P t.wd K mg t.bs CX0 3 (t.f 87) (t.d 87) ["_law_tape_here","_law_kind","_law_many_here"] yr:=by
 refine okT (N:=["_law_tape_here","_law_kind","_law_many_here","_law_found","_law_k","_law_key_here"]) (T.fn 87 rfl) (λH Q hr nd h=>?_)
 ·obtain⟨p,kd,n,rfl,hT,hkd,hn,k⟩:=h
  refine⟨_,(af (aF (i:=3) (aP aa))
   (af (cf Fp rfl (bK rfl T.bQ (aj (qv 2) aa)) (aN (i:=4)) (af (aF (i:=5) (az (A5 T) hr (T.fn 85 rfl) (aj (qv 0) (aj (qv 1) aa))))
   (af (aY (Od (gf (av (lq (K:=K) hr.units0) (qv 3) (aP aa) (ax _)) (fN (av gj (az (bz T) hr (T.fn 82 rfl) (aj (qv 0) (aj ah aa))) ah (ax _))))) (ai (aF (i:=5) (aH (aT (K:=K)) (qv 3) (az (bz T) hr (T.fn 82 rfl) (aj (qv 0) (aj (aq (a8 (K:=K)) (by rfl) T.bA aR (aj (qv 3) aa)) aa)))))) aK)
   (ai (aY (av wY (aq (zU (K:=K) rfl) (by rfl) T.uH AA (aj (bj (N:=["_law_one"]) (tgs:=["_law_one"]) (frs:=[]) (ix:=[]) ⟨rfl,by decide +kernel,rfl,by decide +kernel,rfl,rfl,EX,EX,rfl⟩ rfl (bx (K:=K) (qv 3)) (λ_ _ _ _=>(aN (i:=0))) (λ_ _ _ _=>(aC eV (aq cm (by rfl) T.bA aR (aj (aH (eW (K:=K)) (qv 0) ah) aa)) ah))) aa)) ah (ax _)) (ai (bf (aO (K:=K) (qv 3) (aj (qv 5) aa)))) aK)))))
   (ai (au (qv 3))))),?_⟩
  dsimp only[st0];nofun;refine⟨aI (by simp),λl hl=>?_⟩;have S1:=(Stp.refl hT).new (o:=.lst []) hl;have tl1:(upd H l (.lst [])) l=some (.lst (([]:List Addr).map Oa)):=ae;have hlp:l≠p:=hT.ne hl;generalize upd H l (.lst [])=H1 at S1 tl1;nofun;refine⟨_,rfl,by lia,by lia,cy (n:=n) (λi σ H3=>Stp p H H3/\(∃(qs:List Addr) (ks:List Ky),H3 l=some (.lst (qs.map Oa))/\ks.length<=i/\(∀k∈ks,k.ok kd)/\KysT H3 qs ks)/\∃v w,σ=[some (Oa p),some (N9 kd),some (N7 n),some (Oa l),v,w]) ⟨S1,⟨[],[],tl1,EI _,(λk h=>nomatch h),⟨rfl,λi q k h=>by simp at h⟩⟩,none,none,rfl⟩ ?_ ?_⟩
  ·rintro i σ H3 hi ⟨S3,⟨qs,ks,tl3,hkl,hok,hK⟩,v0,w0,rfl⟩
   nofun;refine⟨p,kd,rfl,S3.tape,hkd,λx1 k1 H7 ok1 S4 tx=>?_⟩;have S7:=S3.trans S4;have tl7:=S4.keep _ _ tl3 hlp;have K7:=hK.tup (ig S4 S3.tape);clear S4 tl3 hK S3;nofun;apply yH (α:=Addr) (S:=λx H7=>∃k1:Ky,Stp p H H7/\H7 l=some (.lst (qs.map Oa))/\KysT H7 qs ks/\k1.ok kd/\H7 x=some (.tup [.str k1.word,k1.worth]));case hA=>
    intro key;refine⟨aI (by simp),λd hd=>?_⟩;have S8:=(Stp.refl S7.tape).new (o:=.lst []) hd;have sm8:=(Oc H7).new (o:=.lst []) hd;have td:(upd H7 d (.lst [])) d=some (.lst []):=ae;generalize upd H7 d (.lst [])=H8 at S8 sm8 td;have tl8:=sm8 _ _ tl7;have K8:=K7.same sm8;have tx8:=sm8 _ _ tx;have S78:=S7.trans S8;refine⟨l,d,qs.map Oa,rfl,rfl,N4 tl8,N4 td,?_⟩;by_cases hx0:qs.map Oa=[]
    rotate_left 1
    ·rw[decide_eq_false hx0]
     have hxp:0<(qs.map Oa).length:=FR.mpr hx0;nofun;refine⟨p,3,rfl,S78.tape,by decide,by decide,λr2 H9 a0 a1 S9=>?_⟩;have tl9:=S9.keep _ _ tl8 hlp;have K9:=K8.tup (ig S9 S78.tape);have tx9:=ig S9 S78.tape _ _ tx8;nofun;by_cases hr2:r2=0
     ·rw[decide_eq_true (congrArg N7 hr2)]
      nofun;refine aJ (N4 tl9) ?_;nofun;refine⟨p,_,rfl,S9.tape,by lia,by rw[EE,K9.1];lia,λr3 HA c0 c1 SA=>?_⟩;have hj:r3.toNat<qs.length:=by rw[EE]at c1;lia
      have tlA:=SA.keep _ _ tl9 hlp;have KA:=K9.tup (ig SA S9.tape);have eat:atI (qs.map Oa) r3=some (Oa qs[r3.toNat]):=by
       have e:r3=(r3.toNat:Int):=by lia
       have:=bc (xs:=qs.map Oa) (j:=r3.toNat) (v:=Oa qs[r3.toNat]) (by simp[hj]);rw[<-e]at this;exact this
      refine bq (N4 tlA) eat ?_;have ek:=EF (l:=ks) (i:=r3.toNat) (by rw[<-KA.1];exact hj);have txA:=KA.2 _ _ _ (EF hj) ek;have okA':=hok _ (ES ek);nofun;generalize qs[r3.toNat]=x2 at txA;exact key x2 HA ⟨_,S78.trans (S9.trans SA),tlA,KA,okA',txA⟩
     ·rw[decide_eq_false λu=>hr2 (N7.inj u)]
      nofun;generalize e7:x1=x2;exact key x2 H9 ⟨k1,S78.trans S9,tl9,K9,ok1,e7▸tx9⟩
    ·rw[decide_eq_true hx0]
     nofun;generalize e7:x1=x2;exact key x2 H8 ⟨k1,S78,tl8,K8,ok1,e7▸tx8⟩
   case hB=>
    clear S7 tl7 K7 tx ok1;rintro x H8 ⟨k2,S8,tl8,K8,ok2,tx8⟩;nofun;refine⟨l,rfl,⟨_,N4 tl8⟩,bN (a:=l) (vs:=qs.map Oa) (λj ys σ H'=>H'=H8/\j<=qs.length/\ys=((ks.take j).map λk:Ky=>((k.word.length:Nat):Int)+1).map N7/\∃v,σ=[v]) (by rw[EE,K8.1];exact ar ⋯) (λj ys σ H' h=>by rw[h.2.2.1,EE,EE,FN];have:=h.2.1;rw[K8.1]at this;lia) (λj ys σ H' h=>by rw[h.1];exact N4 tl8) ⟨rfl,EU _,rfl,none,rfl⟩ ?_ ?_⟩
    ·rintro j ys σ H9 y hy ⟨rfl,_,rfl,v,rfl⟩
     obtain⟨q,rfl,eq,_,hj⟩:=aX hy;have ek:=EF (l:=ks) (i:=j) (by rw[<-K8.1];exact hj);have tq:=K8.2 _ _ _ eq ek;have hw:=m9 (hok _ (ES ek));generalize ks[j]'(by rw[<-K8.1];exact hj)=ky at ek tq hw;nofun;refine⟨_,rfl,by rw[Oj];lia,?_⟩;nofun;exact Oe (by rw[EE];exact hj) ⟨rfl,hj,by rw[E3,ek,EK,EK];rfl,_,rfl⟩
    rintro ys σ H9 ⟨rfl,_,rfl,v,rfl⟩ z hz;rw[ER (by rw[EE,K8.1];lia)];have S9:=Stp.new S8 (o:=.lst ((ks.map λk:Ky=>((k.word.length:Nat):Int)+1).map N7)) hz;have sz:=(Oc H9).new (o:=.lst ((ks.map λk:Ky=>((k.word.length:Nat):Int)+1).map N7)) hz;have tz:(upd H9 z (.lst ((ks.map λk:Ky=>((k.word.length:Nat):Int)+1).map N7))) z=some (.lst ((ks.map λk:Ky=>((k.word.length:Nat):Int)+1).map N7)):=ae;generalize upd H9 z (.lst ((ks.map λk:Ky=>((k.word.length:Nat):Int)+1).map N7))=HA at sz tz S9;have tlA:=sz _ _ tl8;have KA:=K8.same sz;have txA:=sz _ _ tx8;nofun;refine zN (N4 tz) ?_;nofun;refine br (λh1=>?_) (λh1=>?_)
    ·nofun
     refine⟨aZ tlA,?_⟩;nofun;refine aM tlA (by rw[EE,KA.1];exact ar ⋯) ?_;have tt:∀b ys,HA b=some (.tup ys)->(upd HA l (.lst (qs.map Oa++[Oa x]))) b=some (.tup ys):=λb ys e=>by
      rw[ak (λz=>by rw[z,tlA]at e;cases e)];exact e
     nofun;refine⟨S9.own hl hlp,⟨qs++[x],ks++[k2],by rw[ae,EK];rfl,by simp;lia,λk hk=>?_,(KA.tup tt).snoc (tt _ _ txA)⟩,_,_,rfl⟩;rcases Fq.mp hk with h|h
     ·exact hok k h
     ·rw[Fu.mp h];exact ok2
    ·nofun
     exact⟨S9,⟨qs,ks,tlA,by lia,hok,KA⟩,_,_,rfl⟩
  ·rintro σ H3 ⟨S3,⟨qs,ks,tl3,hkl,hok,hK⟩,v0,w0,rfl⟩
   nofun;exact k l qs ks H3 hkl hok hK S3 hl tl3
theorem ja{α:Type}{f:Ky->α}{ks:List Ky}{k:Ky}{d:α}(h:ks[i]? = some k):(ks.map f).getD i d=f k:=by rw[EH,EN,h];rfl
theorem yu{x y:Int}(h1:HT.bH [y,((j:Nat):Int)] [x,((i:Nat):Int)]=false)(h2:HT.bH [x,((i:Nat):Int)] [y,((j:Nat):Int)]=false->i<j):x<y\/(x=y/\i<j):=by
 by_cases e:x=y
 ·refine .inr ⟨e,?_⟩
  by_cases g:i<j
  ·exact g
  ·refine h2 ?_
   rw[HT.aW,if_pos e,HT.aW];split
   ·rfl
   ·exact decide_eq_false ⋯
 ·rw[HT.aW,if_neg (E7 e)]at h1
  have:=of_decide_eq_false h1;exact .inl ⋯
theorem yw(h1:HT.lH (y,[((j:Nat):Int)]) (x,[((i:Nat):Int)])=false)(h2:HT.lH (x,[((i:Nat):Int)]) (y,[((j:Nat):Int)])=false->i<j):x.cps.toList<y.cps.toList\/(x=y/\i<j):=by
 unfold HT.lH at h1 h2;dsimp only at h1 h2;by_cases e:x=y
 ·refine .inr ⟨e,?_⟩
  by_cases g:i<j
  ·exact g
  ·refine h2 ?_
   rw[if_pos e,HT.aW];split
   ·rfl
   ·exact decide_eq_false ⋯
 ·rw[if_neg (E7 e)]at h1
  have:=JM.mp (of_decide_eq_false h1);rcases List.le_iff_lt_or_eq.mp this with h|h
  ·exact .inl h
  ·exact absurd (bV h) e
theorem rF:∀b:Nat,b<=60->1<=b->BIG / (b:Int)*(b:Int)=BIG/\0<BIG / (b:Int):=by decide +kernel
theorem nk{n m:Int}(hb:1<=b)(hb2:b<=60)(hc:1<=c)(hc2:c<=60):(n*(BIG / (b:Int))<m*(BIG / (c:Int))↔n*(c:Int)<m*(b:Int)):=by
 obtain⟨e1,g1⟩:=rF b hb2 hb;obtain⟨e2,g2⟩:=rF c hc2 hc;generalize BIG / (b:Int)=x at e1 g1;generalize BIG / (c:Int)=y at e2 g2;have hB:(0:Int)<BIG:=by decide
 have hbc:(0:Int)<(b:Int)*(c:Int):=JL ⋯ ⋯;have a1:n*x*((b:Int)*(c:Int))=n*(c:Int)*BIG:=by rw[<-e1];simp only[IU,Jo,HR]
 have a2:m*y*((b:Int)*(c:Int))=m*(b:Int)*BIG:=by rw[<-e2];simp only[IU,Jo,HR]
 constructor
 ·intro h
  have:=GE h hbc;rw[a1,a2]at this;exact GG this (Ik hB)
 ·intro h
  have:=GE h hB;rw[<-a1,<-a2]at this;exact GG this (Ik hbc)
theorem C9 {ks:List Ky}{k m:Ky}(hi:ks[i]? = some k) (hj:ks[j]? = some m) (h:k.nn<m.nn\/(k.nn=m.nn/\i<j)):yK (jK "number" ks) i j:=by
 rw[vt];show ltN _ i j=true/\ltN _ j i=false\/(ltN _ i j=false/\ltN _ j i=false/\i<j)
 unfold ltN;rw[ja hi,ja hj];rcases h with h|⟨h,g⟩
 ·exact .inl ⟨decide_eq_true h,decide_eq_false ⋯⟩
 ·exact .inr ⟨decide_eq_false ⋯,decide_eq_false ⋯,g⟩
theorem Da {ks:List Ky}{k m:Ky}(hi:ks[i]? = some k) (hj:ks[j]? = some m) (h:k.pp.1*(m.pp.2:Int)<m.pp.1*(k.pp.2:Int)\/(k.pp.1*(m.pp.2:Int)=m.pp.1*(k.pp.2:Int)/\i<j)):yK (jK "part" ks) i j:=by
 rw[vv];show ltP _ i j=true/\ltP _ j i=false\/(ltP _ i j=false/\ltP _ j i=false/\i<j)
 unfold ltP;rw[ja hi,ja hj];rcases h with h|⟨h,g⟩
 ·exact .inl ⟨decide_eq_true h,decide_eq_false ⋯⟩
 ·exact .inr ⟨decide_eq_false ⋯,decide_eq_false ⋯,g⟩
theorem Dc {ks:List Ky}{k m:Ky}(hi:ks[i]? = some k) (hj:ks[j]? = some m) (h:k.tt.cps.toList<m.tt.cps.toList\/(k.tt=m.tt/\i<j)):yK (jK "text" ks) i j:=by
 rw[vw];show ltT _ i j=true/\ltT _ j i=false\/(ltT _ i j=false/\ltT _ j i=false/\i<j)
 unfold ltT;rw[ja hi,ja hj];rcases h with h|⟨h,g⟩
 ·exact .inl ⟨decide_eq_true h,decide_eq_false λq=>Hv _ (Mi h q)⟩
 ·rw[h]
  exact .inr ⟨decide_eq_false (Hv _),decide_eq_false (Hv _),g⟩
def WpT(H:Hp)(ts:List Addr)(ks:List Ky):Prop:=ts.length=ks.length/\∀(j:Nat) t k,ts[j]? = some t->ks[j]? = some k->H t=some (.tup [k.worth,.int (j:Nat)])
theorem rG{K:EG}{H:Hp}{ts:List Addr}{ks:List Ky}(tl:H l=some (.lst (ts.map Oa)))(hts:ts.length=ks.length)(hW:∀(j:Nat) t k,ts[j]? = some t->ks[j]? = some k->H t=some (.tup [k.worth,.int (j:Nat)]))(hok:∀k∈ks,k.ok kd)(hn:ks.length<=60)(hkd:kd∈cQ)
  (q:∀(d:Addr) (p:List Nat) H',H d=none->Same H H'->H' d=some (.lst (p.map λi=>Oa (ts.getD i 0)))->KyOrd kd ks p->Q (.ref d) H'):mY K [.ref l] H Q:=by
 have mem:∀{p:List Nat},p.Perm (EZ ts.length)->∀i∈p,∃k,ks[i]? = some k/\k.ok kd:=λhp i hi=>by
  have:=FE.mp (hp.mem_iff.mp hi);have e:=EF (l:=ks) (i:=i) ⋯;exact⟨_,e,hok _ (ES e)⟩
 have fin:∀(d:Addr) (p:List Nat),H d=none->p.Perm (EZ ts.length)->p.Pairwise (yK (jK kd ks))->Q (.ref d) (upd H d (.lst (p.map λi=>Oa (ts.getD i 0)))):=λd p hd hp hr=>q d p _ hd ((Oc H).new hd) ae ⟨by rw[<-hts];exact hp,hr⟩
 have rows:∀(f:Ky->Int),(∀k∈ks,k.worth=.int (f k))->(∀(i j:Nat) k m,ks[i]? = some k->ks[j]? = some m->k.ok kd->m.ok kd->(f k<f m\/(f k=f m/\i<j))->yK (jK kd ks) i j)->mY K [.ref l] H Q:=λf hf hr=>by
  have ge:∀{i:Nat}{k:Ky},ks[i]? = some k->((EZ ks.length).map λi=>[f (ks.getD i (.num 0)),((i:Nat):Int)]).getD i []=[f k,((i:Nat):Int)]:=λ{i k} e=>by
   have hi:=(EM.mp e).1;rw[EH,EN,Ga hi];show[f (ks.getD i (.num 0)),((i:Nat):Int)]=_
   rw[EH,e];rfl
  refine .inl ⟨l,ts,(EZ ks.length).map λi=>[f (ks.getD i (.num 0)),((i:Nat):Int)],rfl,N4 tl,by simp[hts],by lia,λi a r e1 e2=>?_,.inr λr hr=>?_,λd p hd hp hs=>fin d p hd hp ?_⟩
  ·have hi:i<ks.length:=by rw[<-hts];exact(EM.mp e1).1
   have ek:=EF hi;have g:=ge ek;rw[EH,e2]at g;have g:r=_:=g;rw[g];have:=hW i a _ e1 ek;rw[hf _ (ES ek)]at this;exact N6 this
  ·obtain⟨x,_,rfl⟩:=E1.mp hr
   exact λz=>nomatch z
  ·refine hs.imp_of_mem λ{i j} hi hj h=>?_
   obtain⟨k,e1,o1⟩:=mem hp i hi;obtain⟨m,e2,o2⟩:=mem hp j hj;obtain⟨h1,h2⟩:=h;dsimp only at h1 h2;rw[ge e1,ge e2]at h1 h2;exact hr i j k m e1 e2 o1 o2 (yu h1 h2)
 rcases gD hkd with rfl|rfl|rfl
 ·refine rows Ky.nn (λk hk=>?_) λi j k m e1 e2 o1 o2 h=>C9 e1 e2 h
  rw[(Ky.isN (hok k hk)).1];rfl
 ·refine rows (λk=>k.pp.1*(BIG / (k.pp.2:Int))) (λk hk=>?_) λi j k m e1 e2 o1 o2 h=>Da e1 e2 ?_
  ·rw[(Ky.isP (hok k hk)).1];rfl
  ·have p1:=(Ky.isP o1).2
   have p2:=(Ky.isP o2).2;have a1:=p1.2.1;have a2:=p1.2.2.1;have b1:=p2.2.1;have b2:=p2.2.2.1;have w1:=nk (n:=k.pp.1) (m:=m.pp.1) (b:=k.pp.2) (c:=m.pp.2) ⋯ ⋯ ⋯ ⋯;have w2:=nk (n:=m.pp.1) (m:=k.pp.1) (b:=m.pp.2) (c:=k.pp.2) ⋯ ⋯ ⋯ ⋯;rcases h with h|⟨h,g⟩
   ·exact .inl (w1.mp h)
   ·exact .inr ⟨Int.le_antisymm (Nn.mp λz=>by have:=w2.mpr z;lia) (Nn.mp λz=>by have:=w1.mpr z;lia),g⟩
 ·have ge:∀{i:Nat}{k:Ky},ks[i]? = some k->((EZ ks.length).map λi=>((ks.getD i (.num 0)).tt,[((i:Nat):Int)])).getD i ("",[])=(k.tt,[((i:Nat):Int)]):=λ{i k} e=>by
   have hi:=(EM.mp e).1;rw[EH,EN,Ga hi];show((ks.getD i (.num 0)).tt,[((i:Nat):Int)])=_
   rw[EH,e];rfl
  refine .inr ⟨l,ts,(EZ ks.length).map λi=>((ks.getD i (.num 0)).tt,[((i:Nat):Int)]),rfl,N4 tl,by simp[hts],by lia,λi a r e1 e2=>?_,λd p hd hp hs=>fin d p hd hp ?_⟩
  ·have hi:i<ks.length:=by rw[<-hts];exact(EM.mp e1).1
   have ek:=EF hi;have g:=ge ek;rw[EH,e2]at g;have g:r=_:=g;rw[g];have:=hW i a _ e1 ek;rw[(Ky.isT (hok _ (ES ek))).1]at this;exact N6 this
  ·refine hs.imp_of_mem λ{i j} hi hj h=>?_
   obtain⟨k,e1,o1⟩:=mem hp i hi;obtain⟨m,e2,o2⟩:=mem hp j hj;obtain⟨h1,h2⟩:=h;dsimp only at h1 h2;rw[ge e1,ge e2]at h1 h2;exact Dc e1 e2 (yw h1 h2)
def A6:Sp:=λvs H Q _=>∃(a:Addr) (qs:List Addr) (ks:List Ky) (kd:Str),vs=[.ref a]/\H a=some (.lst (qs.map Oa))/\KysT H qs ks/\lT kd ks/\kd∈cQ/\∀(o:Addr) (os:List Nat) H',H o=none->Same H H'->H' o=some (.lst (NV os))->KyOrd kd ks os->Q (.ref o) H'
theorem uC (T:Tx K mg t):FnOk P t.wd K mg t.bs CX0 1 (t.f 88) (t.d 88) ["_law_keys_here"] A6:=by
 refine okT (N:=["_law_keys_here"]) (T.fn 88 rfl) (λH Q hr nd h=>?_)
 ·obtain⟨a,qs,ks,kd,rfl,ta,hK,⟨hok,hn⟩,hkd,k⟩:=h
  have hql:=hK.1;refine⟨_,(ai (au (bj (N:=["_law_worth","_law_place"]) (tgs:=["_law_worth","_law_place"]) (frs:=[]) (ix:=[]) ⟨rfl,by decide +kernel,rfl,by decide +kernel,rfl,rfl,EX,EX,rfl⟩ rfl (bx (K:=K) (aq (ub (K:=K) hr.units) (by rfl) T.fK qN (aj (bj (N:=["_law_k","_law_keys_here"]) (tgs:=["_law_k"]) (frs:=["_law_keys_here"]) (ix:=[0]) ⟨rfl,by decide +kernel,rfl,by decide +kernel,rfl,rfl,⟨⟨rfl,rfl,_,rfl,rfl⟩,EX⟩,⟨rfl,EX⟩,rfl⟩ rfl (bK rfl T.bQ (aj (aq (a8 (K:=K)) (by rfl) T.bA aR (aj (qv 0) aa)) aa)) (λ_ _ _ _=>(aN (i:=0))) (λ_ _ _ _=>(bP (aj (aH (eW (K:=K)) (aH (aT (K:=K)) (qv 1) (qv 0)) ah) (aj (qv 0) aa))))) aa))) (λ_ _ _ _=>(c6 (K:=K) (n:=2) rfl (aE (aN (i:=0)) (aE (aN (i:=1)) bZ)))) (λ_ _ _ _=>(qv 1))))),?_⟩;dsimp only[st0];nofun;refine aJ (N4 ta) ?_;rw[EE,hql];refine⟨ks.length,rfl,by lia,by lia,jn (n:=ks.length) (λi ys σ H'=>Same H H'/\(∃ts:List Addr,ys=ts.map Oa/\ts.length=i/\WpT H' ts (ks.take i))/\∃v,σ=[v,some (Oa a)]) (ar ⋯) (λi ys σ H' h=>by obtain⟨_,⟨ts,rfl,e,_⟩,_⟩:=h;rw[EE,e]) ⟨Oc _,⟨[],rfl,rfl,rfl,λj t k h=>by simp at h⟩,none,rfl⟩ ?_ ?_⟩
  ·rintro i ys σ H1 hi ⟨s1,⟨ts,rfl,hts,hW⟩,v,rfl⟩
   nofun;have ek:=EF hi;have eq:=EF (l:=qs) (i:=i) ⋯;have tq:=s1 _ _ (hK.2 _ _ _ eq ek);have ez:(0:Int)+(i:Int)=((i:Nat):Int):=Iv _;rw[ez];refine bq (N4 (s1 _ _ ta)) (v:=Oa (qs[i]'⋯)) (bc (by rw[EN,eq];rfl)) ?_;nofun;refine⟨aI (by simp),λx hx=>?_⟩;have sx:=(Oc H1).new (o:=.tup [(ks[i]).worth,N7 (i:Nat)]) hx;refine Oe hi ⟨s1.trans sx,⟨ts++[x],by rw[EK];rfl,by simp[hts],?_⟩,_,rfl⟩;rw[E3,ek];refine⟨by rw[Fd,Fd,hW.1];rfl,λj u k' e1 e2=>?_⟩;by_cases hj:j<ts.length
   ·rw[E6 hj]at e1
    rw[E6 (by rw[<-hW.1];exact hj)]at e2;exact sx _ _ (hW.2 j u k' e1 e2)
   ·have e:j=ts.length:=by
     have:=(EM.mp e1).1;simp at this;lia
    subst e;rw[E8 (EI _),G7]at e1;rw[E8 (by rw[hW.1];exact EI _),show ts.length - (ks.take i).length=0 by rw[hW.1];lia]at e2;cases e1;cases e2;rw[hts];exact ae
  rintro ys σ H1 ⟨s1,⟨ts,rfl,hts,hW⟩,v,rfl⟩ l hl;rw[ER (EI _)]at hW;obtain⟨H2,e9,sl,tl⟩:=nwR hl (.lst (ts.map Oa));rw[e9];have s2:=s1.trans sl;have W2:∀(j:Nat) t k,ts[j]? = some t->ks[j]? = some k->H2 t=some (.tup [k.worth,.int (j:Nat)]):=λj u k' a b=>sl _ _ (hW.2 j u k' a b)
  nofun;refine rG tl hts W2 hok hn hkd λd p H3 hd s3 td hO=>?_
  have hpl:p.length=ks.length:=by rw[hO.1.length_eq,Fz]
  refine⟨d,rfl,⟨_,N4 td⟩,bN (a:=d) (vs:=p.map λi=>Oa (ts.getD i 0)) (λi ys σ H'=>H'=H3/\i<=p.length/\ys=NV (p.take i)/\∃v w,σ=[v,w]) (by rw[EE,hpl];exact ar ⋯) (λi ys σ H' h=>by rw[h.2.2.1,bt,FN];have:=h.2.1;lia) (λi ys σ H' h=>by rw[h.1];exact N4 td) ⟨rfl,EU _,rfl,none,none,rfl⟩ ?_ ?_⟩
  ·rintro i ys σ H4 x hx ⟨rfl,_,rfl,v,w,rfl⟩
   obtain⟨j,rfl,ej,hj,hi⟩:=aX hx;have hjl:=FE.mp (hO.1.mem_iff.mp hj);have et:=EF (l:=ts) (i:=j) ⋯;have ek:=EF hjl;have tt:=s3 _ _ (W2 j _ _ et ek);rw[<-et]at et;refine cu (by rw[EH,EF (show j<ts.length by lia)];exact tt) ?_;dsimp only[F7];nofun;exact Oe (by rw[EE];exact hi) ⟨rfl,hi,by rw[E3,ej];unfold NV;rw[EK];rfl,_,_,rfl⟩
  ·rintro ys σ H4 ⟨rfl,_,rfl,v,w,rfl⟩ o ho
   rw[EE,ER (EI _)];exact k o p _ (s2.free (s3.free ho)) ((s2.trans s3).new ho) ae hO
theorem kO{s:Str}:∀{xs:List Str}{z:Nat},z∈(Gv s xs).cps.toList->z∈s.cps.toList\/∃x∈xs,z∈x.cps.toList
 | [],z,h=>by cases h
 | [x],z,h=>.inr ⟨x,by simp,h⟩
 | x::y::r,z,h=>by
  have h:z∈(x++s++Gv s (y::r)).cps.toList:=h;rw[GK,GK,Gs,Gs]at h;rcases Fq.mp h with h|h
  ·rcases Fq.mp h with h|h
   ·exact .inr ⟨x,by simp,h⟩
   ·exact .inl h
  ·rcases kO h with h|⟨w,a,b⟩
   ·exact .inl h
   ·exact .inr ⟨w,E4 _ a,b⟩
def Low(w:Str):Prop:=∀c∈w.cps.toList,c<=122
theorem Low.ok{w:Str}(h:Low w):Hq w=true:=by
 unfold Hq;rw[<-Array.all_toList,F4];exact λc hc=>decide_eq_true (by have:=h c hc;lia)
theorem nq{s:Str}{ws:List Str}(hs:Low s)(h:∀w∈ws,Low w):Low (FX s ws):=λc hc=>by
 have hc:c∈(F8 s ws).cps.toList:=hc;rw[FP]at hc;rcases kO hc with z|⟨w,a,b⟩
 ·exact hs c z
 ·exact h w a c b
theorem fI:Low " "/\Low " ; "/\Low "-"/\Low "take"/\Low "move"/\Low "lay":=by unfold Low;decide +kernel
theorem ij(n:Nat):Low (b9 n):=λc hc=>by
 rw[<-cI]at hc;have:=hV (n:Int) c hc;unfold sgn at this;lia
theorem lY{ws:List Str}(h:∀w∈ws,Low w):Low (wrS ws):=by
 unfold wrS;split
 ·exact fI.2.2.1
 ·exact nq fI.1 h
theorem rH{wss:List (List Str)}(h:∀ws∈wss,∀w∈ws,Low w):Low (wrR wss):=by
 unfold wrR;split
 ·exact fI.2.2.1
 ·refine nq fI.2.1 λw hw=>?_
  obtain⟨ws,hm,rfl⟩:=E1.mp hw;exact lY (h ws hm)
theorem jN(r:List Nat):∀w∈r.map b9,Low w:=λw hw=>by
 obtain⟨n,_,rfl⟩:=E1.mp hw;exact ij n
theorem A7(m:RMv):∀w∈mvW m,Low w:=λw hw=>by
 obtain⟨_,_,_,t1,t2,t3⟩:=fI;cases m with
 | take x=>simp only[mvW,EO,Fl,or_false]at hw;rcases hw with rfl|rfl;exact t1;exact ij _
 | move x y=>simp only[mvW,EO,Fl,or_false]at hw;rcases hw with rfl|rfl|rfl;exact t2;exact ij _;exact ij _
 | lay x=>simp only[mvW,EO,Fl,or_false]at hw;rcases hw with rfl|rfl;exact t3;exact ij _
theorem yx(w:Str)(os:List Nat):Low (lV w os):=by
 unfold lV;split
 ·exact lY (jN _)
 ·split
  ·exact lY (jN _)
  ·split
   ·refine rH λws hm=>?_
    obtain⟨r,_,rfl⟩:=E1.mp hm;exact jN r
   ·refine rH λws hm=>?_
    obtain⟨m,_,rfl⟩:=E1.mp hm;exact A7 m
theorem jO{s w:Str}{r:List Str}(h:w.length≠0):(FX s (w::r)).length≠0:=λz=>by
 have z:(F8 s (w::r)).length=0:=z;rw[FP]at z;cases r with
 | nil=>exact h z
 | cons y r=>
  have z:(w++s++Gv s (y::r)).length=0:=z;rw[FA,FA]at z;lia
theorem rJ {ws:List Str}(h:∀w∈ws,w.length≠0):(wrS ws).length≠0/\wrS ws=(if ws=[]then("-" : Str)else FX " " ws):=by
 have e1:("-" : Str).length≠0:=by decide +kernel
 unfold wrS;cases ws with
 | nil=>
  have e:(if(FX " " ([]:List Str)).length=0 then("-" : Str)else FX " " []) = "-":=if_pos rfl;rw[e,if_pos rfl];exact⟨e1,rfl⟩
 | cons w r=>
  have:=jO (s:=" ") (r:=r) (h w (Fn ..));rw[if_neg this,if_neg (λz=>GQ _ _ z)];exact⟨this,rfl⟩
theorem A8 {wss:List (List Str)}(h:∀ws∈wss,(wrS ws).length≠0):wrR wss=(if wss=[]then("-" : Str)else FX " ; " (wss.map wrS)):=by
 unfold wrR;cases wss with
 | nil=>rw[if_pos rfl];exact if_pos rfl
 | cons w r=>
  have:=jO (s:=" ; ") (r:=r.map wrS) (h w (Fn ..));rw[Fw,if_neg this,if_neg (λz=>GQ _ _ z)]
theorem Dd.ne {d:Dd}(h:d.ok kd):¬d.text = "":=λz=>by
 have e:=Dd.split h;rw[z]at e;have e0:Gg ("" : Str) " " = ([""]:List Str):=by decide +kernel
 rw[e0]at e;cases d with
 | row ks=>exact absurd (Gp e).1 (by decide +kernel)
 | pour ks=>exact absurd (Gp e).1 (by decide +kernel)
 | ask a=>
  have:=(Gp e).1;rw[show a = "" from this.symm]at h;exact absurd h (by show ¬("" : Str)∈askL;decide +kernel)
 | srt a=>exact absurd (Gp e).1 (by decide +kernel)
theorem yy {rows:List Str}{ds:List Dd}(hall:(rows.filter λr:Str=>decide (¬r = ""))=kindT kd b::ds.map Dd.text) (hk:kd∈cQ) (h2:2<=b) (h64:b<=64) (hok:∀d∈ds,d.ok kd) (hf:rows.length<=200) (hs:(ds.map Dd.many).sum<=200):TextOk (FX "\n" rows) rows kd b ds/\(rows.map (·.length)).sum+rows.length*("\n" : Str).length<=16777216:=by
 obtain⟨_,_,f3,f4,_⟩:=fZ hk h64 h2;have hr:∀r∈rows,r.length<=4000/\10∉r.cps.toList:=λr hr=>by
  by_cases e:r = ""
  ·rw[e];decide +kernel
  ·have:r∈rows.filter λr:Str=>decide (¬r = ""):=Jy.mpr ⟨hr,decide_eq_true e⟩
   rw[hall]at this;rcases EO.mp this with rfl|this
   ·exact⟨by lia,f4⟩
   ·obtain⟨d,hd,rfl⟩:=E1.mp this
    exact⟨Dd.tlen (hok d hd),Dd.nl (hok d hd)⟩
 have e1:("\n" : Str).length=1:=by decide +kernel
 have e2:=i9 λr h=>(hr r h).1
 refine⟨⟨?_,?_,hf,λr h=>(hr r h).1,hall,hk,h2,h64,hok,hs⟩,by rw[e1];lia⟩
 ·show Gg (F8 "\n" rows) "\n" = rows
  rw[FP,C5];refine fY (λz=>?_) λr h=>(hr r h).2
  rw[z]at hall;cases hall
 ·show(F8 "\n" rows).length<=_
  rw[FP];have e3:=Gx "\n" rows;rw[e1]at e3;lia
structure Pd (kd:Str) (n:Nat) (ds:List Dd) (ks:List Ky) (as:List Str):Prop where
 ok:∀d∈ds,d.ok kd/\(d.deed\/okA d)/\d.many=0
 lay:hX [] ds=ks
 kso:lT kd ks
 ans:AnsF kd n [] [] ds as
 low:∀w∈as,Low w
 len:as.length<=ds.length
section
variable{kd:Str}{n:Nat}{ds:List Dd}{ks:List Ky}{as:List Str}
theorem Pd.nil:Pd kd n [] [] []:=⟨(λd h=>nomatch h),rfl,⟨(λk h=>nomatch h),EU _⟩,rfl,(λw h=>nomatch h),EI _⟩
theorem yz:∀w∈ask4,w∈askL:=by decide +kernel
theorem Pd.ask(h:Pd kd n ds ks as){w:Str}{os:List Nat}(hw:w∈ask4)(hO:KyOrd kd ks os):Pd kd n (ds++[.ask w]) ks (as++[lV w os]):=by
 refine⟨λd hd=>?_,by rw[b7,h.lay];rfl,h.kso,h.ans.app ⟨_,[],rfl,⟨os,by rw[h.lay];exact hO,rfl⟩,rfl⟩,λx hx=>?_,by simp;exact h.len⟩
 ·rcases Fq.mp hd with z|z
  ·exact h.ok d z
  ·rw[Fu.mp z];exact⟨yz w hw,.inr hw,rfl⟩
 ·rcases Fq.mp hx with z|z
  ·exact h.low x z
  ·rw[Fu.mp z];exact yx w os
theorem Pd.row(h:Pd kd n ds ks as){k2:List Ky}(hk:lT kd k2):Pd kd n (ds++[.row k2]) k2 as:=by
 refine⟨λd hd=>?_,by rw[b7];rfl,hk,?_,h.low,by simp;exact Nat.le_succ_of_le h.len⟩
 ·rcases Fq.mp hd with z|z
  ·exact h.ok d z
  ·rw[Fu.mp z];exact⟨hk,.inl trivial,rfl⟩
 ·have:=h.ans.app (es:=[.row k2]) (bs:=[]) rfl
  rwa [Gj]at this
theorem Pd.text (h:Pd kd n ds ks as) (hk:kd∈cQ) (h2:2<=n) (h64:n<=64) (hl:ds.length<=150):TextOk (FX "\n" (kindT kd n::ds.map Dd.text)) (kindT kd n::ds.map Dd.text) kd n ds/\((kindT kd n::ds.map Dd.text).map (·.length)).sum+(kindT kd n::ds.map Dd.text).length*("\n" : Str).length<=16777216:=by
 obtain⟨_,_,_,_,f5⟩:=fZ hk h64 h2;refine yy ?_ hk h2 h64 (λd hd=>(h.ok d hd).1) (by simp;lia) ?_
 ·rw[List.filter_cons,if_pos (decide_eq_true f5),List.filter_eq_self.mpr λr hr=>?_]
  obtain⟨d,hd,rfl⟩:=E1.mp hr;exact decide_eq_true (Dd.ne (h.ok d hd).1)
 ·have e:∀ds:List Dd,(∀d∈ds,d.many=0)->(ds.map Dd.many).sum=0:=λds=>by
   induction ds with
   | nil=>exact λ_=>rfl
   | cons d ds ih=>exact λg=>by rw[Fw,HV,g d (Fn ..),ih λx hx=>g x (E4 _ hx)]
  rw[e ds λd hd=>(h.ok d hd).2.2];exact EU _
theorem gG:∀{ds:List Dd}{ks:List Ky}{ps:List (List Ky)}{as bs:List Str},AnsF kd n ks ps ds as->AnsF kd n ks ps ds bs->as=bs
 | [],_,_,_,_,h,g=>by rw[show _=[]from h,show _=[]from g]
 | .row _::ds,_,_,_,_,h,g=>gG (ds:=ds) h g
 | .pour _::ds,_,_,_,_,h,g=>gG (ds:=ds) h g
 | .ask w::ds,_,_,_,_,h,g=>by
  obtain⟨s,r,rfl,⟨os,a1,rfl⟩,h⟩:=h;obtain⟨s',r',rfl,⟨os',b1,rfl⟩,g⟩:=g;rw[a1.one b1,gG (ds:=ds) h g]
 | .srt w::ds,_,_,_,_,h,_=>by obtain⟨_,_,_,a,_⟩:=h;exact a.elim
end
def Es:Sp:=λvs H Q _=>∃(a:Addr) (r:List Nat),vs=[.ref a]/\H a=some (.lst (NV r))/\(∀x∈r,x<200)/\r.length<=61/\∀H',Same H H'->Q (.str (wrS (r.map b9))) H'
theorem jP (T:Tx K mg t):FnOk P t.wd K mg t.bs CX0 1 (t.f 89) (t.d 89) ["_law_things"] Es:=by
 refine okT (N:=["_law_things"]) (T.fn 89 rfl) (λH Q hr nd h=>?_)
 ·obtain⟨a,r,rfl,ta,hrr,hn,k⟩:=h
  refine⟨_,(ai (au (jm (av (lq (K:=K) hr.units0) (qv 0) (aP aa) (ax _)) (fb (K:=K) aw (aj (bj (N:=["_law_one"]) (tgs:=["_law_one"]) (frs:=[]) (ix:=[]) ⟨rfl,by decide +kernel,rfl,by decide +kernel,rfl,rfl,EX,EX,rfl⟩ rfl (bx (K:=K) (qv 0)) (λ_ _ _ _=>(aN (i:=0))) (λ_ _ _ _=>(aQ (lD hr.gd hr.units) (by rfl) T.fk dH (aj (qv 0) aa)))) aa)) aw))),?_⟩;dsimp only[st0];nofun;refine⟨aI (by simp),λd hd=>?_⟩;obtain⟨H1,e9,s1,td⟩:=nwR hd (.lst []);rw[e9];have ta1:=s1 _ _ ta;refine⟨a,d,NV r,rfl,rfl,N4 ta1,N4 td,?_⟩;have hws:∀w∈r.map b9,w.length<=18/\w.length≠0:=λw hw=>by
   obtain⟨x,hx,rfl⟩:=E1.mp hw;exact fG x (hrr x hx)
  have hk:∀H',Same H1 H'->Q (.str (if r=[]then("-" : Str)else FX " " (r.map b9))) H':=λH' s=>by
   have:=k H' (s1.trans s);rw[(rJ λw hw=>(hws w hw).2).2]at this;by_cases hx:r=[]
   ·rw[if_pos hx];rw[if_pos (by rw[hx];rfl)]at this;exact this
   ·rw[if_neg hx];rw[if_neg (λz=>hx (Gb.mp z))]at this;exact this
  by_cases hx:r=[]
  ·rw[decide_eq_true (show NV r=[]by rw[hx];rfl)]
   rw[if_pos hx]at hk;nofun;exact hk H1 (Oc _)
  ·rw[decide_eq_false (show ¬NV r=[]from λz=>hx (Gb.mp z))]
   rw[if_neg hx]at hk;nofun;refine⟨rfl,?_⟩;nofun;refine⟨a,rfl,⟨_,N4 ta1⟩,bN (a:=a) (vs:=NV r) (λi ys σ H'=>H1=H'/\i<=r.length/\ys=((r.take i).map b9).map N9/\∃v,σ=[v]) (ar (by rw[bt];lia)) (λi ys σ H' h=>by rw[h.2.2.1];simp;lia) (λi ys σ H' h=>h.1▸N4 ta1) ⟨rfl,EU _,rfl,_,rfl⟩ ?_ ?_⟩
   ·rintro i ys σ H2 x hx ⟨rfl,hi,rfl,v,rfl⟩
    obtain⟨w,rfl,ew,hwm,hi2⟩:=aX hx;have hw2:=hrr w hwm;nofun;refine⟨_,_,rfl,.int ((w:Nat):Int) (GN (show((w:Nat):Int).natAbs<10 ^ 18 by lia) (by decide +kernel)),?_⟩;nofun;exact Oe (by rw[bt];exact hi2) ⟨rfl,hi2,by rw[E3,ew,EK,EK];show _=_++[N9 (b9 w)];rw[<-cI],_,rfl⟩
   ·rintro ys σ H2 ⟨rfl,hi,rfl,v,rfl⟩ q hq
    rw[bt,ER (EI _)];have hk:=hk _ ((Oc H1).new (o:=.lst ((r.map b9).map N9)) hq);nofun;obtain⟨f1,f2⟩:=d9 (λw hw=>(hws w hw).1) (show(r.map b9).length<=61 by rw[EE];exact hn) " " (by decide +kernel) (by decide);refine⟨_,q,_,rfl,rfl,N4 ae,f1,?_⟩;nofun;exact hk
def Et:Sp:=λvs H Q _=>∃(a:Addr) (wss:List (List Str)),vs=[.ref a]/\H a=some (.lst ((wss.map wrS).map N9))/\(∀ws∈wss,(wrS ws).length≠0/\(wrS ws).length<=1300)/\wss.length<=200/\∀H',Same H H'->Q (.str (wrR wss)) H'
theorem kP (T:Tx K mg t):FnOk P t.wd K mg t.bs CX0 1 (t.f 92) (t.d 92) ["_law_words_here"] Et:=by
 refine okT (N:=["_law_words_here"]) (T.fn 92 rfl) (λH Q hr nd h=>?_)
 ·obtain⟨a,wss,rfl,ta,hw,hn,k⟩:=h
  refine⟨_,(ai (au (jm (av (lq (K:=K) hr.units0) (qv 0) (aP aa) (ax _)) (fb (K:=K) aw (aj (qv 0) aa)) aw))),?_⟩;dsimp only[st0];nofun;refine⟨aI (by simp),λd hd=>?_⟩;have s1:=(Oc H).new (o:=.lst []) hd;have td:(upd H d (.lst [])) d=some (.lst []):=ae;have k:=k _ s1;generalize upd H d (.lst [])=H1 at s1 td k;have ta1:=s1 _ _ ta;rw[A8 λws h=>(hw ws h).1]at k;refine⟨a,d,_,rfl,rfl,N4 ta1,N4 td,?_⟩;by_cases hx:wss=[]
  ·rw[decide_eq_true (show(wss.map wrS).map N9=[]by rw[hx];rfl)]
   rw[if_pos hx]at k;nofun;exact k
  ·rw[decide_eq_false (show ¬(wss.map wrS).map N9=[]from λz=>hx (Gb.mp (Gb.mp z)))]
   rw[if_neg hx]at k;nofun;refine⟨rfl,?_⟩;nofun;obtain⟨f1,f2⟩:=d9 (m:=1300) (k:=200) (ws:=wss.map wrS) (λw hm=>by
    obtain⟨ws,hm2,rfl⟩:=E1.mp hm;exact(hw ws hm2).2) (by rw[EE];exact hn) " ; " (by decide +kernel) (by decide)
   refine⟨_,a,_,rfl,rfl,N4 ta1,f1,?_⟩;nofun;exact k
theorem rK(os:List Nat):(NV os).all gL=true:=by
 unfold NV;rw[MM,F4];intro x _;rfl
theorem vC{ts:List Nat}:inV (N7 (i:Nat)) (NV ts)=decide (i∈ts):=by
 unfold inV NV;rw[List.any_map]
 induction ts with
 | nil=>rfl
 | cons a r ih=>
  rw[JZ,ih];have e:(eqV (N7 ((a:Nat):Int)) (N7 ((i:Nat):Int)))=decide (i=a):=by
   show decide (((a:Nat):Int)=((i:Nat):Int))=_
   exact decide_eq_decide.mpr ⟨λh=>(J6 h).symm,λh=>by rw[h]⟩
  simp only[N0];rw[e];simp
def uD:Sp:=λvs H Q _=>∃(a:Addr) (os:List Nat) (n:Nat),vs=[.ref a]/\H a=some (.lst (NV os))/\Ord os n/\n<=60/\
 ∀(l:Addr) (ps:List Addr) (rgs:List (List Nat)) H',H l=none->Same H H'->H' l=some (.lst (ps.map Oa))->LsAt H' ps rgs->rgs=aB os->Q (.ref l) H'
theorem jb (T:Tx K mg t):FnOk P t.wd K mg t.bs CX0 1 (t.f 90) (t.d 90) ["_law_order_here"] uD:=by
 refine okT (N:=["_law_order_here","_law_found","_law_met","_law_k","_law_ring"]) (T.fn 90 rfl) (λH Q hr nd h=>?_)
 ·obtain⟨a,os,n,rfl,ta,hO,hn,k⟩:=h
  refine⟨_,(af (aF (i:=1) (aP aa))
   (af (aF (i:=2) (aP aa))
   (af (cf Fp rfl (bK rfl T.bQ (aj (aq (a8 (K:=K)) (by rfl) T.bA aR (aj (qv 0) aa)) aa)) (aN (i:=3)) (af (aF (i:=4) (aP (aj (qv 3) aa)))
   (af (eG Fp (Od (gf (av yF (aH (aT (K:=K)) (qv 0) (aH (aT (K:=K)) (qv 4) (j9 kb ah))) (qv 3) (ax _)) (fN (av (tY (K:=K)) (qv 3) (qv 2) rfl)))) (ai (bf (aO (K:=K) (qv 4) (aj (aH (aT (K:=K)) (qv 0) (aH (aT (K:=K)) (qv 4) (j9 kb ah))) aa)))))
   (ai (aY (av nO (aq (a8 (K:=K)) (by rfl) T.bA aR (aj (qv 4) aa)) ah (ax _)) (af (bf (aO (K:=K) (qv 1) (aj (qv 4) aa)))
   (ai (aF (i:=2) (aC wX (qv 2) (qv 4))))) aK)))))
   (ai (au (qv 1)))))),?_⟩
  dsimp only[st0];nofun;refine⟨aI (by simp),λl hl=>?_⟩;obtain⟨H1,e9,s1,(tl:H1 l=some (.lst (([]:List Addr).map Oa)))⟩:=nwR hl (.lst []);rw[e9];nofun;refine⟨aI (by simp),λsd hsd=>?_⟩;have hsl:l≠sd:=ao tl hsd;obtain⟨H2,e9,s2,e8,(td2:H2 sd=some (.lst (NV [])))⟩:=nwD s1 hsd (.lst []);rw[e9];have tl2:=e8 _ _ tl;nofun;refine aJ (N4 (s2 _ _ ta)) ?_;rw[bt,hO.len];nofun;refine⟨n,rfl,by lia,by lia,cy (λi σ H'=>Same H H'/\(∃(sd:Addr) (ml:List Nat) (rgs:List (List Nat)) (ps:List Addr),H' sd=some (.lst (NV ml))/\ml.length<=i*61/\H' l=some (.lst (ps.map Oa))/\LsAt H' ps rgs/\(∀p∈ps,p≠l)/\l≠sd/\RgJ os n i (λj=>j∈ml) rgs/\∃v w,σ=[some (Oa a),some (Oa l),some (Oa sd),v,w])) ⟨s2,sd,[],[],[],td2,EU _,tl2,LsAt.nil,(λp h=>nomatch h),hsl,(RgJ.nil λj (z:j∈([]:List Nat))=>nomatch z),_,_,rfl⟩ ?_ ?_⟩
  ·rintro i σ H3 hi ⟨s3,sd,ml,rgs,ps,td3,hkl,tl3,hL,hpl,hsl,hR,v,w,rfl⟩
   nofun;have hin:i<n:=by lia
   obtain⟨hx1,hx2⟩:=hO.nx hin;rw[Iv];refine⟨aI (by simp),λg hg=>?_⟩;have hgn:H g=none:=s3.free hg;have hgl:l≠g:=ao tl3 hg;have hgd:sd≠g:=ao td3 hg;have hgp:∀p∈ps,p≠g:=λp hp e=>by
    obtain⟨ns,_,e2⟩:=hL.some hp;rw[e,hg]at e2;cases e2
   have s4:=s3.new (o:=.lst [N7 (i:Nat)]) hg;have tg:(upd H3 g (.lst [N7 (i:Nat)])) g=some (.lst (NV (rgN os i 1))):=ae;have tl4:(upd H3 g (.lst [N7 (i:Nat)])) l=some (.lst (ps.map Oa)):=by rw[ak hgl];exact tl3
   have td4:(upd H3 g (.lst [N7 (i:Nat)])) sd=some (.lst (NV ml)):=by rw[ak hgd];exact td3
   have L4:=hL.same ((Oc H3).new (o:=.lst [N7 (i:Nat)]) hg);generalize upd H3 g (.lst [N7 (i:Nat)])=H4 at s4 tg tl4 td4 L4;nofun;refine⟨λc σ H5=>∃k,c=n - k/\(0<k->i∉ml)/\(∀t,0<t->t<=k->itN os t i≠i)/\Same H H5/\H5 g=some (.lst (NV (rgN os i (k+1))))/\H5 l=some (.lst (ps.map Oa))/\H5 sd=some (.lst (NV ml))/\LsAt H5 ps rgs/\σ=[some (Oa a),some (Oa l),some (Oa sd),some (N7 (i:Nat)),some (Oa g)],⟨n,0,rfl,(λh=>absurd h (FM _)),λt h1 h2=>by lia,s4,tg,tl4,td4,L4,rfl⟩,?_⟩;rintro c σ H5 ⟨k',rfl,hnm,hnb,s5,tg5,tl5,td5,L5,rfl⟩;have hkn:=dG hO k' hin;have hnd:=p8 hO hin (k'+1) λt h1 h2=>hnb t h1 ⋯
   have hkl2:k'+1<=n:=by have:=mN hnd (u6 hO hin _);rw[eY]at this;exact this
   have eL:NV (rgN os i (k'+1))=NV (rgN os i k')++[N7 ((itN os k' i:Nat):Int)]:=by rw[mM,<-fR]
   nofun;refine bq (N4 tg5) (by rw[eL];exact gr _ _) ?_;refine bq (N4 (s5 _ _ ta)) (jq rfl (hO.nx hkn).1) ?_;nofun;by_cases g2:itN os (k'+1) i=i\/i∈ml
   ·apply yH (α:=Nat) (S:=λ_ H'=>H'=H5)
    case hA=>
     intro key;by_cases g3:itN os (k'+1) i=i
     ·rw[decide_eq_true (show N7 ((os.getD (itN os k' i) 0:Nat):Int)=N7 (i:Nat)from congrArg (λz:Nat=>N7 (z:Int)) g3)]
      nofun;obtain⟨z,ez⟩:∃z:Nat,z=0:=⟨0,rfl⟩
      generalize e8:H5=H6;exact key z H6 e8.symm
     ·rw[decide_eq_false (show ¬N7 ((os.getD (itN os k' i) 0:Nat):Int)=N7 (i:Nat)from λz=>g3 (J6 (N7.inj z)))]
      nofun;refine ko td5 rfl (rK ml) ?_;rw[vC,decide_eq_true (g2.resolve_left g3)];nofun;obtain⟨z,ez⟩:∃z:Nat,z=0:=⟨0,rfl⟩
      generalize e8:H5=H6;exact key z H6 e8.symm
    case hB=>
     rintro _ H6 rfl;nofun;refine aJ (N4 tg5) ?_;rw[bt,eY];nofun;refine br (λh1=>?_) (λh1=>?_)
     ·have hk0:0<k':=by lia
      have hm:=hnm hk0;have hbk:=g2.resolve_right hm;have hne:os.getD i 0≠i:=hnb 1 ⋯ ⋯;nofun;refine⟨aZ tl5,?_⟩;nofun;refine aM tl5 (by rw[EE,hL.1];exact ar (by have:=hR.few;lia)) ?_;nofun;refine⟨sd,g,_,_,rfl,rfl,by rw[ak (E7 hsl)];exact td5,by rw[ak (E7 hgl)];exact tg5,by rw[Oj,bt,bt,eY];have:i*61<=60*61:=Nat.mul_le_mul_right _ (show i<=60 by lia);lia,λsd2 hsd2=>?_⟩;have h6l:(upd H6 l (.lst (ps.map Oa++[Oa g]))) l=some (.lst (ps.map Oa++[Oa g])):=ae;have h6g:(upd H6 l (.lst (ps.map Oa++[Oa g]))) g=some (.lst (NV (rgN os i (k'+1)))):=by rw[ak (E7 hgl)];exact tg5
      have hl2:l≠sd2:=ao h6l hsd2;have s7:Same (upd H6 l (.lst (ps.map Oa++[Oa g]))) (upd (upd H6 l (.lst (ps.map Oa++[Oa g]))) sd2 (.lst (NV ml++NV (rgN os i (k'+1))))):=(Oc _).new hsd2;refine⟨(s5.own hl).trans s7,sd2,ml++rgN os i (k'+1),rgs++[rgN os i (k'+1)],ps++[g],by rw[ae];unfold NV;rw[EK],by rw[Fd,eY,Nat.add_mul];lia,s7 _ _ (by rw[h6l,EK];rfl),?_,λp hp=>?_,hl2,?_,_,_,rfl⟩
      ·exact((L5.upd hpl).snoc h6g).same s7
      ·rcases Fq.mp hp with q|q
       ·exact hpl p q
       ·rw[Fu.mp q];exact E7 hgl
      ·exact hR.take hO hin hm hne hbk hnd λj _=>Fq
     ·nofun
      have hk0:k'=0:=by lia
      subst hk0;exact⟨s5,sd,ml,rgs,ps,td5,by lia,tl5,L5,hpl,hsl,hR.skip hO hin (g2.elim .inr .inl),_,_,rfl⟩
   ·have g3:itN os (k'+1) i≠i:=λz=>g2 (.inl z)
    have g4:i∉ml:=λz=>g2 (.inr z)
    rw[decide_eq_false (show ¬N7 ((os.getD (itN os k' i) 0:Nat):Int)=N7 (i:Nat)from λz=>g3 (J6 (N7.inj z)))];nofun;refine ko td5 rfl (rK ml) ?_;rw[vC,decide_eq_false g4];nofun;refine⟨_,λ_ _ z=>z,?_⟩;nofun;refine⟨aZ tg5,?_⟩;nofun;refine bq (N4 tg5) (by rw[eL];exact gr _ _) ?_;refine bq (N4 (s5 _ _ ta)) (jq rfl (hO.nx hkn).1) ?_;nofun;refine aM tg5 (by rw[bt,eY];exact ar ⋯) ?_;have hnb2:∀t,0<t->t<=k'+1->itN os t i≠i:=λt h1 h2=>by
     rcases FI t (k'+1)with q|q
     ·exact hnb t h1 ⋯
     ·rw[show t=k'+1 by lia];exact g3
    refine⟨n - (k'+1),by lia,k'+1,rfl,λ_=>g4,hnb2,s5.own hgn,?_,?_,?_,L5.upd hgp,rfl⟩
    ·rw[ae,mM os i (k'+1),<-fR];rfl
    ·rw[ak hgl];exact tl5
    ·rw[ak hgd];exact td5
  ·rintro σ H3 ⟨s3,sd,ml,rgs,ps,td3,hkl,tl3,hL,hpl,hsl,hR,v,w,rfl⟩
   nofun;exact k l ps rgs H3 hl s3 tl3 hL (hR.done hO)
theorem ik (x:Nat) : "take "++b9 x=wrS ["take",b9 x]/\"lay "++b9 x=wrS ["lay",b9 x]/\∀y,"move "++b9 x++" "++b9 y=wrS ["move",b9 x,b9 y]:=by
 have e1:("take " : Str) = "take"++" ":=by decide +kernel
 have e2:("lay " : Str) = "lay"++" ":=by decide +kernel
 have e3:("move " : Str) = "move"++" ":=by decide +kernel
 have p:∀w∈(["take","lay","move"]:List Str),w.length≠0:=by decide +kernel
 have j:∀(w:Str) (r:List Str),w.length≠0->wrS (w::r)=Gv " " (w::r):=λw r h=>by
  unfold wrS;rw[if_neg (jO h)];exact FP _ _
 refine⟨?_,?_,λy=>?_⟩
 ·rw[j _ _ (p _ (by simp)),e1];rfl
 ·rw[j _ _ (p _ (by simp)),e2];rfl
 ·rw[j _ _ (p _ (by simp)),e3]
  show _ = "move"++" "++(b9 x++" "++b9 y)
  rw[FD,FD,FD,FD,FD]
theorem rL{a:Nat}(h:a<=40)(g:b<=40):a+b<=sizeLine:=by rw[Oj];lia
theorem A9(r:List Nat):oV (NV r) (some 1) none=NV (r.drop 1):=by
 cases r with
 | nil=>unfold oV;simp[HT.sIx,NV]
 | cons x r=>exact C6
noncomputable def fS(m:RMv):Str:=wrS (mvW m)
theorem lZ(ms:List RMv)(m:RMv):(ms.map fS).map N9++[N9 (fS m)]=((ms++[m]).map fS).map N9:=by rw[EK,EK];rfl
theorem nv{H:Hp}{g:Addr}{ws:List Str}(h:H l=some (.lst (ws.map N9)))(e:H g=some (.lst (NV r)))(hr:0<r.length):l≠g:=λz=>by
 rw[z,e]at h;have:=HO.lst.inj (EY h);cases r with
 | nil=>simp at hr
 | cons x r'=>cases ws<;>cases this
def yA:Sp:=λvs H Q _=>∃(a:Addr) (os:List Nat) (n:Nat),vs=[.ref a]/\H a=some (.lst (NV os))/\Ord os n/\n<=60/\∀(l:Addr) H',Same H H'->H' l=some (.lst (((i3 os).map fS).map N9))->Q (.ref l) H'
theorem yB (T:Tx K mg t):FnOk P t.wd K mg t.bs CX0 2 (t.f 91) (t.d 91) ["_law_order_here"] yA:=by
 refine okT (N:=["_law_order_here","_law_found","_law_ring"]) (T.fn 91 rfl) (λH Q hr nd h=>?_)
 ·obtain⟨a,os,n,rfl,ta,hO,hn,k⟩:=h
  refine⟨_,(af (aF (i:=1) (aP aa))
   (af (cf Fp rfl (bx (K:=K) (az (jb T) hr (T.fn 90 rfl) (aj (qv 0) aa))) (aN (i:=2)) (af (bf (aO (K:=K) (qv 1) (aj (aC bF aw (aQ dU (by rfl) T.fk dH (aj (aH (aT (K:=K)) (qv 2) ah) aa))) aa)))
   (af (bf (pO (K:=K) (qv 1) (aj (bj (N:=["_law_other","_law_one"]) (tgs:=["_law_other","_law_one"]) (frs:=[]) (ix:=[]) ⟨rfl,by decide +kernel,rfl,by decide +kernel,rfl,rfl,EX,EX,rfl⟩ rfl (z7 (K:=K) rfl T.uI (aj (qv 2) (aj (dw (pz (K:=K)) (qv 2) (dr ah) gQ) aa))) (λ_ _ _ _=>(c6 (K:=K) (n:=2) rfl (aE (aN (i:=0)) (aE (aN (i:=1)) bZ)))) (λ_ _ _ _=>(aC bF (aC bF (aC bF aw (aQ dU (by rfl) T.fk dH (aj (qv 1) aa))) aw) (aQ dU (by rfl) T.fk dH (aj (qv 0) aa))))) aa)))
   (ai (bf (aO (K:=K) (qv 1) (aj (aC bF aw (aQ dU (by rfl) T.fk dH (aj (aH (aT (K:=K)) (qv 2) (j9 kb ah)) aa))) aa)))))))
   (ai (au (qv 1))))),?_⟩
  dsimp only[st0];nofun;refine⟨aI (by simp),λl hl=>?_⟩;obtain⟨H1,e9,s1,(tl:H1 l=some (.lst (([]:List Str).map N9)))⟩:=nwR hl (.lst []);rw[e9];nofun;refine⟨a,os,n,rfl,s1 _ _ ta,hO,hn,λrl ps rgs H2 hrl0 s2 trl hL e=>?_⟩;subst e;have hpl:ps.length=(aB os).length:=hL.1;have hrl:=eM hO;have hm2:=(gC hO).2;have tl2:=s2 _ _ tl;have hlr:l≠rl:=ao tl hrl0;refine⟨rl,rfl,⟨_,N4 trl⟩,eE (a:=rl) (xs:=ps.map Oa) (λi σ H'=>Same H H'/\H' rl=some (.lst (ps.map Oa))/\LsAt H' ps (aB os)/\H' l=some (.lst (((mvs ((aB os).take i)).map fS).map N9))/\∃v,σ=[some (Oa a),some (Oa l),v]) ⟨s1.trans s2,trl,hL,tl2,_,rfl⟩ (λi σ H' _ h=>N4 h.2.1) ?_ ?_⟩
  ·rintro i x σ H3 hx ⟨s3,trl3,L3,tl3,v,rfl⟩
   obtain⟨g,rfl,eg,_,hi⟩:=aX hx;have er:=EF (l:=aB os) (i:=i) ⋯;have tg:=L3.2 i g _ eg er;obtain⟨hr1,hr2⟩:=hrl _ (ES er);have h9:=jL (aB os) (i+1);rw[gE er,Fd]at h9;have h8:(mvs (aB os)).length<=2*n:=hm2;rw[gE er];generalize (aB os)[i]'⋯=r at er tg hr1 hr2 h9;obtain⟨tx1,tx2,tx3⟩:=ik (r.getD 0 0);have e5:("take " : Str).length=5/\("move " : Str).length=5/\("lay " : Str).length=4/\(" " : Str).length=1:=by decide +kernel
   have hnm:∀x∈r,x<n:=hr2
   have hgt:∀j,j<r.length->r.getD j 0<200:=λj hj=>by
    have:=hr2 (r.getD j 0) (by rw[EH,EF hj];exact Fh hj);lia
   have hnl:∀j,j<r.length->(b9 (r.getD j 0)).length<=40:=λj hj=>FB (fG _ (hgt j hj)).1 (by decide)
   have hml:(mvR r).length=r.length+1:=by unfold mvR;simp[mvI];lia
   have lgx:∀{x:Nat},x<200->((x:Nat):Int).natAbs.log2<1920:=λ{x} h=>rq ⋯
   have hlg:l≠g:=nv tl3 tg ⋯;have hgrl:rl≠g:=λz=>by
    rw[z,tg]at trl3;have:=HO.lst.inj (EY trl3);obtain⟨x,r',rfl⟩:∃x r',r=x::r':=by cases r with|nil=>simp at hr1|cons x r'=>exact⟨x,r',rfl⟩
    cases ps with
    | nil=>cases this
    | cons p ps=>cases this
   nofun;refine⟨aZ tl3,?_⟩;nofun;refine bq (N4 tg) (jq rfl (dC (show 0<r.length by lia))) ?_;nofun;refine⟨_,rfl,lgx (hgt 0 ⋯),?_⟩;rw[cI];refine⟨_,_,rfl,rfl,rL (by rw[e5.1];decide) (hnl 0 ⋯),?_⟩;rw[tx1];nofun;refine aM tl3 (by rw[EE,EE];exact ar ⋯) ?_;rw[show N9 (wrS ["take",b9 (r.getD 0 0)])=N9 (fS (Of (r.getD 0 0)))from rfl];have tl4:(upd H3 l (.lst (((mvs ((aB os).take i)).map fS).map N9++[N9 (fS (Of (r.getD 0 0)))]))) l=some (.lst (((mvs ((aB os).take i)++[Of (r.getD 0 0)]).map fS).map N9)):=by rw[ae,lZ]
   have s4:Same H (upd H3 l (.lst (((mvs ((aB os).take i)).map fS).map N9++[N9 (fS (Of (r.getD 0 0)))]))):=s3.own hl;have tg4:(upd H3 l (.lst (((mvs ((aB os).take i)).map fS).map N9++[N9 (fS (Of (r.getD 0 0)))]))) g=some (.lst (NV r)):=by rw[ak (E7 hlg)];exact tg
   have trl4:(upd H3 l (.lst (((mvs ((aB os).take i)).map fS).map N9++[N9 (fS (Of (r.getD 0 0)))]))) rl=some (.lst (ps.map Oa)):=by rw[ak (E7 hlr)];exact trl3
   have hpn:∀p∈ps,p≠l:=λp hp z=>by
    obtain⟨k,hk⟩:=F9 hp;obtain⟨hk1,hk2⟩:=hk;have ek:=EF (l:=aB os) (i:=k) ⋯;have tk:=L3.2 k p _ (by rw[EF hk1,hk2]) ek;have:=(hrl _ (ES ek)).1;exact nv tl3 tk ⋯ z.symm
   have L4:LsAt (upd H3 l (.lst (((mvs ((aB os).take i)).map fS).map N9++[N9 (fS (Of (r.getD 0 0)))]))) ps (aB os):=L3.upd hpn;generalize upd H3 l (.lst (((mvs ((aB os).take i)).map fS).map N9++[N9 (fS (Of (r.getD 0 0)))]))=H4 at s4 tl4 tg4 trl4 L4;nofun;refine⟨aZ tl4,?_⟩;nofun;refine⟨1,rfl,?_⟩;nofun;refine lJ tg4 λc H5 s5 tc=>?_
   rw[A9]at tc;have tg5:=s5 _ _ tg4;nofun;refine⟨g,c,rfl,⟨_,N4 tg5⟩,⟨_,N4 tc⟩,jo (n:=r.length - 1) (λj ys σ H'=>Same H5 H'/\ys=((mvI r j).map fS).map N9/\∃v w,σ=[v,w]) (ar ⋯) (λj ys σ H' h=>by rw[h.2.1,EE,EE];unfold mvI;rw[EE,Fz]) ⟨Oc _,rfl,none,none,rfl⟩ ?_ ?_ ?_ ?_⟩
   ·rintro j ys σ H6 hj ⟨s6,_⟩
    exact⟨_,_,N7 ((r.getD j 0:Nat):Int),N7 ((r.getD (j+1) 0:Nat):Int),N4 (s6 _ _ tg5),N4 (s6 _ _ tc),gh (dC ⋯),gh (by rw[KC,Kp];exact dC ⋯)⟩
   ·rintro ys σ H6 ⟨s6,_⟩
    exact⟨_,_,N4 (s6 _ _ tg5),N4 (s6 _ _ tc),.inr (by rw[bt,Jj];exact EI _)⟩
   ·rintro j x ys σ H6 H7 hj ⟨s6,rfl,v1,v2,rfl⟩ ⟨q,x1,y1,rfl,hq,rfl,hx1,hy1⟩
    have hx2:=hx1 _ (N4 (s6 _ _ tg5));have hy2:=hy1 _ (N4 (s6 _ _ tc));rw[gh (dC (show j<r.length by lia))]at hx2;rw[gh (o:=r.getD (j+1) 0) (by rw[KC,Kp];exact dC ⋯)]at hy2;obtain rfl:=EY hx2;obtain rfl:=EY hy2;refine cu ae ?_;dsimp only[F7];have s7:=s6.new (o:=.tup [N7 ((r.getD j 0:Nat):Int),N7 ((r.getD (j+1) 0:Nat):Int)]) hq;generalize upd H6 q (.tup [N7 ((r.getD j 0:Nat):Int),N7 ((r.getD (j+1) 0:Nat):Int)])=H7 at s7;nofun;refine⟨_,rfl,lgx (hgt (j+1) ⋯),?_⟩;rw[cI];refine⟨_,_,rfl,rfl,rL (by rw[e5.2.1];decide) (hnl (j+1) ⋯),?_⟩;nofun;refine⟨_,_,rfl,rfl,by rw[Oj,FA,e5.2.1,e5.2.2.2];have:=hnl (j+1) ⋯;lia,?_⟩;nofun;refine⟨_,rfl,lgx (hgt j ⋯),?_⟩;rw[cI];refine⟨_,_,rfl,rfl,by rw[Oj,FA,FA,e5.2.1,e5.2.2.2];have:=hnl (j+1) ⋯;have:=hnl j ⋯;lia,?_⟩;rw[(ik (r.getD (j+1) 0)).2.2 (r.getD j 0)];exact Oe hj ⟨s7,by rw[mQ];exact lZ (mvI r j) (RMv.move (r.getD (j+1) 0) (r.getD j 0)),_,_,rfl⟩
   rintro ys σ H6 ⟨s6,rfl,v1,v2,rfl⟩ e he;obtain⟨H7,e9,s7,te⟩:=nwS s6 he (.lst (((mvI r (r.length - 1)).map fS).map N9));rw[e9];have s57:=s5.trans s7;have tl7:=s57 _ _ tl4;have tg7:=s57 _ _ tg4;have trl7:=s57 _ _ trl4;have L7:=L4.same s57;have s07:=s4.trans s57;have hmi:(mvI r (r.length - 1)).length=r.length - 1:=by unfold mvI;rw[EE,Fz]
   nofun;refine pT tl7 te (by rw[Oj,EE,EE,EE,EE,Fd,hmi,Gf];lia) ?_;rw[<-EK,<-EK];have s8:Same H (upd H7 l (.lst (((mvs ((aB os).take i)++[Of (r.getD 0 0)]++mvI r (r.length - 1)).map fS).map N9))):=s07.own hl;have tl8:(upd H7 l (.lst (((mvs ((aB os).take i)++[Of (r.getD 0 0)]++mvI r (r.length - 1)).map fS).map N9))) l=some (.lst (((mvs ((aB os).take i)++[Of (r.getD 0 0)]++mvI r (r.length - 1)).map fS).map N9)):=ae;have tg8:(upd H7 l (.lst (((mvs ((aB os).take i)++[Of (r.getD 0 0)]++mvI r (r.length - 1)).map fS).map N9))) g=some (.lst (NV r)):=by rw[ak (E7 hlg)];exact tg7
   have trl8:(upd H7 l (.lst (((mvs ((aB os).take i)++[Of (r.getD 0 0)]++mvI r (r.length - 1)).map fS).map N9))) rl=some (.lst (ps.map Oa)):=by rw[ak (E7 hlr)];exact trl7
   have L8:LsAt (upd H7 l (.lst (((mvs ((aB os).take i)++[Of (r.getD 0 0)]++mvI r (r.length - 1)).map fS).map N9))) ps (aB os):=L7.upd hpn;generalize upd H7 l (.lst (((mvs ((aB os).take i)++[Of (r.getD 0 0)]++mvI r (r.length - 1)).map fS).map N9))=H8 at s8 tl8 tg8 trl8 L8;nofun;refine⟨aZ tl8,?_⟩;nofun;refine bq (N4 tg8) (by rw[rB (show 0<r.length by lia)];exact gr _ _) ?_;nofun;refine⟨_,rfl,lgx (hgt (r.length - 1) ⋯),?_⟩;rw[cI];refine⟨_,_,rfl,rfl,rL (by rw[e5.2.2.1];decide) (hnl (r.length - 1) ⋯),?_⟩;rw[(ik (r.getD (r.length - 1) 0)).2.1];nofun;refine aM tl8 (by rw[EE,EE,Fd,Fd,hmi,Gf];exact ar ⋯) ?_;rw[show N9 (wrS ["lay",b9 (r.getD (r.length - 1) 0)])=N9 (fS (Og (r.getD (r.length - 1) 0)))from rfl,lZ];refine⟨s8.own hl,by rw[ak (E7 hlr)];exact trl8,L8.upd hpn,?_,_,rfl⟩;rw[ae,show mvR r=Of (r.getD 0 0)::(mvI r (r.length - 1)++[Og (r.getD (r.length - 1) 0)])from rfl];simp[fS]
  ·rintro σ H3 ⟨s3,trl3,L3,tl3,v,rfl⟩
   rw[ER (by rw[EE];lia)]at tl3;nofun;exact k l H3 s3 tl3
theorem ny{ws:List Str}(h:∀w∈ws,w.length<=18/\w.length≠0)(hn:ws.length<=61):(wrS ws).length≠0/\(wrS ws).length<=1300:=by
 refine⟨(rJ λw hw=>(h w hw).2).1,?_⟩;unfold wrS;split
 ·decide +kernel
 ·show(F8 " " ws).length<=_
  rw[FP];have e4:=Gx " " ws;have e1:=i9 λw hw=>(h w hw).1
  have e5:((" " : Str)).length=1:=by decide +kernel
  rw[e5]at e4;lia
theorem yC(h:∀x∈r,x<200)(hn:r.length<=61):(wrS (r.map b9)).length≠0/\(wrS (r.map b9)).length<=1300:=
 ny (λw hw=>by obtain⟨x,hx,rfl⟩:=E1.mp hw;exact fG x (h x hx)) (by rw[EE];exact hn)
theorem De{m:RMv}(h:m.lt 60):(wrS (mvW m)).length≠0/\(wrS (mvW m)).length<=1300:=by
 obtain⟨x1,x2⟩:=AZ h;exact ny (lU x1 x2) (by cases m<;>(unfold mvW;simp))
theorem nz{os:List Nat}(h:Ord os n)(hk:k<n):k∈os:=by
 obtain⟨i,_,a⟩:=h.sur k hk;exact ES a
def Ba:Sp:=λvs H Q _=>∃(w:Str) (a:Addr) (qs:List Addr) (ks:List Ky) (kd:Str),vs=[.str w,.ref a]/\w∈ask4/\H a=some (.lst (qs.map Oa))/\KysT H qs ks/\lT kd ks/\kd∈cQ/\∀(os:List Nat) H',Same H H'->KyOrd kd ks os->Q (.str (lV w os)) H'
theorem vD (T:Tx K mg t):FnOk P t.wd K mg t.bs CX0 3 (t.f 94) (t.d 94) ["_law_word","_law_keys_here"] Ba:=by
 refine okT (N:=["_law_word","_law_keys_here","_law_order_here"]) (T.fn 94 rfl) (λH Q hr nd h=>?_)
 ·obtain⟨w,a,qs,ks,kd,rfl,hw,ta,hK,hok,hkd,k⟩:=h
  refine⟨_,(af (aF (i:=2) (az (uC T) hr (T.fn 88 rfl) (aj (qv 1) aa)))
   (af (aY (av gj (qv 0) aw (ax _)) (ai (au (az (jP T) hr (T.fn 89 rfl) (aj (qv 2) aa)))) aK)
   (af (aY (av gj (qv 0) aw (ax _)) (ai (au (az (jP T) hr (T.fn 89 rfl) (aj (bj (N:=["_law_k","_law_order_here"]) (tgs:=["_law_k"]) (frs:=["_law_order_here"]) (ix:=[2]) ⟨rfl,by decide +kernel,rfl,by decide +kernel,rfl,rfl,⟨⟨rfl,rfl,_,rfl,rfl⟩,EX⟩,⟨rfl,EX⟩,rfl⟩ rfl (bK rfl T.bQ (aj (aq (a8 (K:=K)) (by rfl) T.bA aR (aj (qv 2) aa)) aa)) (λ_ _ _ _=>(aN (i:=0))) (λ_ _ _ _=>(tM (K:=K) (qv 1) (aj (qv 0) aa)))) aa)))) aK)
   (af (aY (av gj (qv 0) aw (ax _)) (ai (au (az (kP T) hr (T.fn 92 rfl) (aj (bj (N:=["_law_ring"]) (tgs:=["_law_ring"]) (frs:=[]) (ix:=[]) ⟨rfl,by decide +kernel,rfl,by decide +kernel,rfl,rfl,EX,EX,rfl⟩ rfl (bx (K:=K) (az (jb T) hr (T.fn 90 rfl) (aj (qv 2) aa))) (λ_ _ _ _=>(aN (i:=0))) (λ_ _ _ _=>(az (jP T) hr (T.fn 89 rfl) (aj (qv 0) aa)))) aa)))) aK)
   (ai (au (az (kP T) hr (T.fn 92 rfl) (aj (az (yB T) hr (T.fn 91 rfl) (aj (qv 2) aa)) aa)))))))),?_⟩
  dsimp only[st0];nofun;refine⟨a,qs,ks,kd,rfl,ta,hK,hok,hkd,λo os H1 ho s1 to hO=>?_⟩;have hn:=hok.2;have hord:=hO.ord;have hlen:=hord.len;simp only[ask4,EO,Fl,or_false]at hw;have ne:∀{x y:Str},¬x=y->¬N9 x=N9 y:=λh z=>h (N9.inj z)
  rcases hw with rfl|rfl|rfl|rfl
  ·nofun
   rw[decide_eq_true rfl];nofun;refine⟨o,os,rfl,to,λx hx=>by have:=hord.lt x hx;lia,by lia,λH2 s2=>?_⟩;rw[<-vy];exact k os H2 (s1.trans s2) hO
  ·nofun
   rw[decide_eq_false (ne cC.1)];nofun;rw[decide_eq_true rfl];nofun;refine aJ (N4 to) ?_;rw[bt];refine⟨os.length,rfl,by lia,by lia,jn (n:=os.length) (λi ys σ H'=>H1=H'/\i<=os.length/\ys=NV ((f6 os).take i)/\∃v,σ=[v,some (Oa o)]) (ar ⋯) (λi ys σ H' h=>by have:=h.2.1;rw[h.2.2.1,bt,FN];unfold f6;rw[EE,Fz];lia) ⟨rfl,EU _,rfl,none,rfl⟩ ?_ ?_⟩
   ·rintro i ys σ H2 hi ⟨rfl,_,rfl,v,rfl⟩
    have hm:=nz hord (show i<ks.length by lia);have ej:=EF (Ha hm);rw[KB]at ej;nofun;refine⟨aZ to,?_⟩;nofun;rw[Iv];refine tO to ej (λm hm e=>by have:=hord.inj m _ i e ej;lia) ⋯ ?_;refine Oe hi ⟨rfl,hi,?_,_,rfl⟩;have eb:(f6 os)[i]? = some (os.idxOf i):=by unfold f6;rw[EN,Ga hi];rfl
    rw[E3,eb];exact fR _ _
   ·rintro ys σ H2 ⟨rfl,_,rfl,v,rfl⟩ l hl
    have hbl:(f6 os).length=os.length:=by unfold f6;rw[EE,Fz]
    rw[ER ⋯];obtain⟨H2,e9,s2,tl⟩:=nwR hl (.lst (NV (f6 os)));rw[e9];nofun;refine⟨l,_,rfl,tl,λx hx=>?_,by lia,λH3 s3=>?_⟩
    ·unfold f6 at hx
     obtain⟨j,hj,rfl⟩:=E1.mp hx;have:=Ha (nz hord (by rw[<-hlen];exact FE.mp hj));lia
    ·rw[<-vz]
     exact k os H3 (s1.trans (s2.trans s3)) hO
  ·nofun
   rw[decide_eq_false (ne cC.2.1)];nofun;rw[decide_eq_false (ne cC.2.2.1)];nofun;rw[decide_eq_true rfl];nofun;refine⟨o,os,ks.length,rfl,to,hord,hn,λl ps rgs H2 _ s2 tl hL e=>?_⟩;subst e;have hrl:=eM hord;have hpl:ps.length=(aB os).length:=hL.1;have hfew:(aB os).length<=os.length:=(c7 os os.length).1;nofun;refine⟨l,rfl,⟨_,N4 tl⟩,bN (a:=l) (vs:=ps.map Oa) (λi ys σ H'=>Same H2 H'/\i<=ps.length/\ys=((((aB os).take i).map λr=>r.map b9).map wrS).map N9/\∃v,σ=[v]) (ar (by rw[EE];lia)) (λi ys σ H' h=>by rw[h.2.2.1];simp;lia) (λi ys σ H' h=>N4 (h.1 _ _ tl)) ⟨Oc _,EU _,rfl,none,rfl⟩ ?_ ?_⟩
   ·rintro i ys σ H3 x hx ⟨s3,_,rfl,v,rfl⟩
    obtain⟨g,rfl,eg,_,hi⟩:=aX hx;have er:=EF (l:=aB os) (i:=i) ⋯;have tg:=s3 _ _ (hL.2 i g _ eg er);obtain⟨hr1,hr2⟩:=hrl _ (ES er);have hr3:=(c7 os os.length).2 _ (ES er);generalize (aB os)[i]'⋯=r at er tg hr1 hr2 hr3;nofun;refine⟨g,r,rfl,tg,λx hx=>by have:=hr2 x hx;lia,by lia,λH4 s4=>?_⟩;exact Oe (by rw[EE];exact hi) ⟨s3.trans s4,hi,by rw[E3,er,EK,EK,EK];rfl,_,rfl⟩
   rintro ys σ H3 ⟨s3,_,rfl,v,rfl⟩ z hz;rw[EE,ER ⋯];obtain⟨H4,e9,s4,tz⟩:=nwS s3 hz (.lst ((((aB os).map λr=>r.map b9).map wrS).map N9));rw[e9];nofun;refine⟨z,_,rfl,tz,λws hws=>?_,by rw[EE];lia,λH5 s5=>?_⟩
   ·obtain⟨r,hr,rfl⟩:=E1.mp hws
    exact yC (λx hx=>by have:=(hrl r hr).2 x hx;lia) (by have:=(c7 os os.length).2 r hr;lia)
   ·rw[<-vA]
    exact k os H5 (s1.trans (s2.trans (s4.trans s5))) hO
  ·nofun
   rw[decide_eq_false (ne cC.2.2.2.1)];nofun;rw[decide_eq_false (ne cC.2.2.2.2.1)];nofun;rw[decide_eq_false (ne cC.2.2.2.2.2)];nofun;refine⟨o,os,ks.length,rfl,to,hord,hn,λl H2 s2 tl=>?_⟩;have hm2:=(gC hord).2;have hlt:=qx hord;rw[show((i3 os).map fS).map N9=(((i3 os).map mvW).map wrS).map N9 by rw[Gd (f:=mvW) (g:=wrS)];rfl]at tl;nofun;refine⟨l,_,rfl,tl,λws hws=>?_,by rw[EE];lia,λH5 s5=>?_⟩
   ·obtain⟨m,hm,rfl⟩:=E1.mp hws
    exact De (A0 (hlt m hm) hn)
   ·rw[<-vB]
    exact k os H5 (s1.trans (s2.trans s5)) hO
structure Ls (t:Ad) (p:Addr) (H1 Hc:Hp) (l:Addr) (qs:List Addr) (ks:List Ky) (r d:Addr) (rows dues:List Str):Prop where
 st:Stp p H1 Hc
 key:Hc l=some (.lst (qs.map Oa))
 klp:l≠p
 kt:KysT Hc qs ks
 rw:Hc r=some (.lst (rows.map N9))
 rn:H1 r=none
 rp:r≠p
 du:Hc d=some (.lst (dues.map N9))
 dn:H1 d=none
 dp:d≠p
 lr:l≠r
 ld:l≠d
 rd:r≠d
 tab:Tb t Hc
section
variable{t:Ad}{p l r d:Addr}{H1 Hc Hd:Hp}{qs:List Addr}{ks:List Ky}{rows dues:List Str}
theorem Ls.same(h:Ls t p H1 Hc l qs ks r d rows dues)(s:Same Hc Hd):Ls t p H1 Hd l qs ks r d rows dues:=
 ⟨h.st.same s,s _ _ h.key,h.klp,h.kt.same s,s _ _ h.rw,h.rn,h.rp,s _ _ h.du,h.dn,h.dp,h.lr,h.ld,h.rd,h.tab.same s⟩
theorem rM(T:Tb t Hc)(u:Tape Hc p)(S:Stp p Hc Hd):Tb t Hd:=by
 obtain⟨a,b,c,h9,_⟩:=u;rcases T with z|⟨c,z,u⟩
 ·exact .inl (S.keep _ _ z (fm z h9 (by intro c;cases c)))
 ·exact .inr ⟨c,S.keep _ _ z (fm z h9 (by intro c;cases c)),S.keep _ _ u (fm u h9 (by intro c;cases c))⟩
theorem Ls.stp(h:Ls t p H1 Hc l qs ks r d rows dues)(s:Stp p Hc Hd):Ls t p H1 Hd l qs ks r d rows dues:=
 ⟨h.st.trans s,s.keep _ _ h.key h.klp,h.klp,h.kt.tup (ig s h.st.tape),s.keep _ _ h.rw h.rp,h.rn,h.rp,s.keep _ _ h.du h.dp,h.dn,h.dp,h.lr,h.ld,h.rd,rM h.tab h.st.tape s⟩
theorem Ls.addR(h:Ls t p H1 Hc l qs ks r d rows dues)(x:Str):Ls t p H1 (upd Hc r (.lst (rows.map N9++[N9 x]))) l qs ks r d (rows++[x]) dues:=
 ⟨h.st.own h.rn h.rp,by rw[ak h.lr];exact h.key,h.klp,h.kt.tup λb ys e=>by rw[ak (λz=>by rw[z,h.rw]at e;cases e)];exact e,by rw[ae,EK];rfl,h.rn,h.rp,by rw[ak (E7 h.rd)];exact h.du,h.dn,h.dp,h.lr,h.ld,h.rd,h.tab.upd h.rw trivial⟩
theorem Ls.addD(h:Ls t p H1 Hc l qs ks r d rows dues)(x:Str):Ls t p H1 (upd Hc d (.lst (dues.map N9++[N9 x]))) l qs ks r d rows (dues++[x]):=
 ⟨h.st.own h.dn h.dp,by rw[ak h.ld];exact h.key,h.klp,h.kt.tup λb ys e=>by rw[ak (λz=>by rw[z,h.du]at e;cases e)];exact e,by rw[ak h.rd];exact h.rw,h.rn,h.rp,by rw[ae,EK];rfl,h.dn,h.dp,h.lr,h.ld,h.rd,h.tab.upd h.du trivial⟩
theorem Ls.newK(h:Ls t p H1 Hc l qs ks r d rows dues){l2:Addr}{qs2:List Addr}{ks2:List Ky}(s:Stp p Hc Hd)(n:Hc l2=none)(e:Hd l2=some (.lst (qs2.map Oa)))(k:KysT Hd qs2 ks2):Ls t p H1 Hd l2 qs2 ks2 r d rows dues:=
 let g:=h.stp s
 ⟨g.st,e,h.st.tape.ne n,k,g.rw,h.rn,h.rp,g.du,h.dn,h.dp,(λz=>by rw[z,h.rw]at n;cases n),(λz=>by rw[z,h.du]at n;cases n),h.rd,g.tab⟩
end
noncomputable def cR(kd:Str)(n:Nat)(ds:List Dd):List Str:=kindT kd n::ds.map Dd.text
theorem f7(kd:Str)(n:Nat)(ds:List Dd)(d:Dd):cR kd n ds++[d.text]=cR kd n (ds++[d]):=by unfold cR;rw[EK];rfl
theorem il(kd:Str)(n:Nat)(ds:List Dd):(cR kd n ds).length=ds.length+1:=by unfold cR;rw[Fk,EE]
noncomputable def ask5:List Str:=["order","back","rings","walk","order"]
theorem yD:∀w∈ask5,w∈ask4:=by decide +kernel
theorem uE (ks:List Ky):FX " " (Dd.row ks).words=(Dd.row ks).text:=by
 show F8 " " _=_
 rw[FP,uo];rfl
theorem kQ{H:Hp}{ws:List Str}(h:H a=some (.lst (ws.map N9)))(hs:∀w∈ws,Hq w=true):DatE 1 H (.ref a) (.list (ws.map Nl)):=by
 refine DatE.lst h (by rw[EE,EE]) λi u e x y=>?_
 obtain⟨w,rfl,ew,hw,_⟩:=aX x;rw[EN,ew]at y;cases y;exact DatE.str (hs w hw)
def Bb:Sp:=λvs H Q _=>∃(a b:Addr) (ws:List Str),vs=[.ref a,.ref b]/\H a=some (.lst (ws.map N9))/\H b=some (.lst (ws.map N9))/\(∀w∈ws,Hq w=true)/\ws.length<=60/\∀H',Same H H'->Q (.bl true) H'
theorem iQ (T:Tx K mg t):FnOk P t.wd K mg t.bs CX0 1 (t.f 93) (t.d 93) ["_law_found","_law_due_here"] Bb:=by
 refine okT (N:=["_law_found","_law_due_here"]) (T.fn 93 rfl) (λH Q hr nd h=>?_)
 ·obtain⟨a,b,ws,rfl,ta,tb,hw,hn,k⟩:=h
  refine⟨_,(ai (au (uV (aq (iY (K:=K)) (by rfl) T.aV bu (aj (qv 0) (aj (c8 rfl T.iG jC (v:=.ty "list") rfl) aa))) (uV (dQ (CS hr.units) (qv 0) (qv 1) (ax _)) (iX (aq (uX (K:=K) rfl) (by rfl) T.rS vj (aj (bj (N:=["_law_one"]) (tgs:=["_law_one"]) (frs:=[]) (ix:=[]) ⟨rfl,by decide +kernel,rfl,by decide +kernel,rfl,rfl,EX,EX,rfl⟩ rfl (bx (K:=K) (qv 0)) (λ_ _ _ _=>(aN (i:=0))) (λ_ _ _ _=>(aq (iY (K:=K)) (by rfl) T.aV bu (aj (qv 0) (aj (c8 rfl T.fk dH (v:=.ty "str") rfl) aa))))) aa))))))),?_⟩;dsimp only[st0];nofun;refine tE ta ?_;nofun;refine ql (n:=1) (kQ ta hw) (kQ tb hw) (by decide) ?_;nofun;refine⟨a,rfl,⟨_,N4 ta⟩,bN (a:=a) (vs:=ws.map N9) (λi ys σ H'=>H=H'/\i<=ws.length/\ys=(E2 i true).map N8/\∃v,σ=[v]) (ar (by rw[EE];lia)) (λi ys σ H' h=>by rw[h.2.2.1];simp) (λi ys σ H' h=>h.1▸N4 ta) ⟨rfl,EU _,rfl,_,rfl⟩ ?_ ?_⟩
  ·rintro i ys σ H2 x hx ⟨rfl,hi,rfl,v,rfl⟩
   obtain⟨w,rfl,ew,_,hi2⟩:=aX hx;nofun;refine Oe (by rw[EE];exact hi2) ⟨rfl,hi2,by rw[List.replicate_succ',EK];rfl,_,rfl⟩
  ·rintro ys σ H2 ⟨rfl,hi,rfl,v,rfl⟩ r hr
   have k:=k _ ((Oc H).new (o:=.lst ((E2 (ws.map N9).length true).map N8)) hr);nofun;refine uU (N4 ae) ?_;rw[show(E2 (ws.map N9).length true).all id=true by simp];exact k
theorem Bc{pt:Addr}{K:EG}{H:Hp}(T:yJ pt H)(e:SameX pt H H')(h:SqL K H a xs):SqL K H' a xs:=by
 rcases h with(h|⟨o,h⟩)|h
 ·exact .inl (.inl (e _ _ (T.ne h) h))
 ·refine .inl (.inr ⟨o,e _ _ (λz=>?_) h⟩)
  subst z;rcases T with z|⟨c,z,_⟩<;>rw[h]at z<;>cases z
 ·exact .inr h
def uF(K:EG)(pt:Addr):Sp:=λvs H Q _=>∃(a:Addr) (ns:List Int),vs=[.ref a]/\SqL K H a (ns.map N7)/\ns.length<=63/\yJ pt H/\∀H',Q (.bl true) H'
theorem Bd (T:Tx K mg t):FnOk P t.wd K mg t.bs CX0 10 t.Bh t.Bg ["_law_script"] (uF K t.pt):=by
 have nd:=sc_law.nd;refine T.Dh.okQ sc_law (λvs H Q E h=>?_) (λcdv A outer s H vs Q E hr h=>?_)
 ·obtain⟨a,ns,rfl,_⟩:=h
  rfl
 ·obtain⟨a,ns,rfl,hS,hlen,hT,k⟩:=h
  refine⟨_,(af (cf Fp rfl (bK rfl T.bQ (aj (aC eV ah (aq (zT rfl) (by rfl) T.ou qM (aj ah (aj (aq (a8 (K:=K)) (by rfl) T.bA aR (aj (qv 0) aa)) aa)))) aa)) (aN (i:=1)) (af (aF (i:=2) (az (xK T) hr (T.fn 81 rfl) (aj (qv 0) (aj (qv 1) aa))))
   (af (aF (i:=3) (aH (aT (K:=K)) (aP (aj aw (aj aw (aj aw aa)))) (az (bz T) hr (T.fn 82 rfl) (aj (qv 2) (aj ah aa)))))
   (af (aF (i:=4) (aP (aj (aC bF (aC bF (aC bF aw (qv 3)) aw) (aQ dU (by rfl) T.fk dH (aj (az (xM T) hr (T.fn 84 rfl) (aj (qv 2) aa)) aa))) aa)))
   (af (aF (i:=5) (aP aa))
   (af (aF (i:=6) (aP aa))
   (af (cf Fp rfl (bK rfl T.bQ (aj (aC eV ah (az (bz T) hr (T.fn 82 rfl) (aj (qv 2) (aj ah aa)))) aa)) (aN (i:=7)) (af (cf Fp rfl (bK rfl T.bQ (aj (az (bz T) hr (T.fn 82 rfl) (aj (qv 2) (aj ah aa))) aa)) (aN (i:=8)) (af (aF (i:=9) (aH (aT (K:=K)) (aP (aj aw (aj aw (aj aw (aj aw aa))))) (az (bz T) hr (T.fn 82 rfl) (aj (qv 2) (aj ah aa)))))
   (af (bf (aO (K:=K) (qv 4) (aj (qv 9) aa)))
   (ai (bf (aO (K:=K) (qv 6) (aj (az (vD T) hr (T.fn 94 rfl) (aj (qv 9) (aj (qv 5) aa))) aa)))))))
   (af (aF (i:=5) (az (yt T) hr (T.fn 87 rfl) (aj (qv 2) (aj (qv 3) (aj (az (ym T) hr (T.fn 83 rfl) (aj (qv 2) aa)) aa)))))
   (ai (bf (aO (K:=K) (qv 4) (aj (fb (K:=K) aw (aj (aC wX (aP (aj aw aa)) (bj (N:=["_law_key_here"]) (tgs:=["_law_key_here"]) (frs:=[]) (ix:=[]) ⟨rfl,by decide +kernel,rfl,by decide +kernel,rfl,rfl,EX,EX,rfl⟩ rfl (bx (K:=K) (qv 5)) (λ_ _ _ _=>(aN (i:=0))) (λ_ _ _ _=>(aH (eW (K:=K)) (qv 0) ah)))) aa)) aa)))))))
   (af (cf Fp rfl (gR (K:=K) (bP (aj aw (aj aw (aj aw (aj aw (aj aw aa))))))) (aN (i:=9)) (af (bf (aO (K:=K) (qv 4) (aj (qv 9) aa)))
   (ai (bf (aO (K:=K) (qv 6) (aj (az (vD T) hr (T.fn 94 rfl) (aj (qv 9) (aj (qv 5) aa))) aa))))))
   (ai (aY (c5 (cD (az (iQ T) hr (T.fn 93 rfl) (aj (az (A3 T) hr (T.fn 80 rfl) (aj (fb (K:=K) aw (aj (qv 4) aa)) aa)) (aj (qv 6) aa))))) (ai (au gP)) aK))))))))))
   (ai (au gP))),?_⟩
  rw[show L2.dq ["_law_script","_law_k","_law_tape_here","_law_kind","_law_rows","_law_keys_here","_law_due_here","_law_turn","_law_ask","_law_word"] [Oa a]=[some (Oa a),none,none,none,none,none,none,none,none,none]from rfl];nofun;refine aJ hS ?_;nofun;have hml:(Li N7 ns).length=ns.length:=EE ..;refine⟨_,rfl,by(repeat' split)<;>lia,by(repeat' split)<;>lia,cy (λi σ H'=>Sx t H H'/\Tb t H'/\∃v1 v2 v3 v4 v5 v6 v7 v8 v9,σ=[some (Oa a),v1,v2,v3,v4,v5,v6,v7,v8,v9]) ⟨Sx.of (Oc _),hT,_,_,_,_,_,_,_,_,_,rfl⟩ ?_ ?_⟩
  ·rintro i σ H' hi ⟨sm,T0,v1,v2,v3,v4,v5,v6,v7,v8,v9,rfl⟩
   nofun;refine⟨a,ns,_,rfl,Bc hT sm hS,by lia,λp H1 hp0 same T1=>?_⟩;nofun;refine⟨aI (by simp),λq1 hq1=>?_⟩;have S2:=(Stp.refl T1).new (o:=.lst [N9 "number",N9 "part",N9 "text"]) hq1;nofun;refine⟨p,3,rfl,S2.tape,by decide,by decide,λr1 H3 r1a r1b S3=>?_⟩;obtain⟨v,ev,hv⟩:=dP (xs:=[N9 "number",N9 "part",N9 "text"]) r1a (by simpa using r1b);refine bq (N4 (S3.keep _ _ ae (T1.ne hq1))) ev ?_;obtain⟨kd,rfl,hkd⟩:∃kd:Str,v=N9 kd/\kd∈cQ:=by
    simp only[EO,Fl,or_false]at hv;rcases hv with rfl|rfl|rfl
    ·exact⟨_,rfl,by simp[cQ]⟩
    ·exact⟨_,rfl,by simp[cQ]⟩
    ·exact⟨_,rfl,by simp[cQ]⟩
   have S4:=S2.trans S3;clear S2 S3 ev hv hq1 r1a r1b;nofun;have tab4:Tb t H3:=rM (T0.same same) T1 S4;have e5:("kind " : Str).length=5:=by decide +kernel
   have e6:(" " : Str).length=1:=by decide +kernel
   obtain⟨_,_,_,hkl6⟩:=ng kd hkd;refine⟨_,_,rfl,rfl,by rw[Oj];lia,?_⟩;nofun;refine⟨_,_,rfl,rfl,by rw[Oj,FA];lia,?_⟩;nofun;refine⟨p,rfl,S4.tape,λr H7 r2 r64 S7=>?_⟩;obtain⟨n,rfl⟩:=HH (show(0:Int)<=r by lia);have hn2:2<=n:=by lia
   have hn64:n<=64:=by lia
   have S8:=S4.trans S7;have tab8:=rM tab4 S4.tape S7;clear S7 S4 r2 r64 tab4;obtain⟨_,_,_,_,hnl⟩:=kJ n ⋯ hn2;refine⟨_,rfl,rq ⋯,?_⟩;rw[cI];refine⟨_,_,rfl,rfl,by rw[Oj,FA,FA];lia,?_⟩;nofun;refine⟨aI (by simp),λra hra=>?_⟩;rw[show([N9 (Fy "kind "++kd++Fy " "++b9 n)]:List V)=(cR kd n []).map N9 from rfl];have s9:=(Oc H7).new (o:=.lst ((cR kd n []).map N9)) hra;have t9:(upd H7 ra (.lst ((cR kd n []).map N9))) ra=some (.lst ((cR kd n []).map N9)):=ae;have S9:=S8.new (o:=.lst ((cR kd n []).map N9)) hra;have tab9:=tab8.same s9;have nra:ra≠p:=S8.tape.ne hra;have fra:H1 ra=none:=S8.free hra;generalize upd H7 ra (.lst ((cR kd n []).map N9))=H9 at s9 t9 S9 tab9;clear S8 tab8 s9;nofun;refine⟨aI (by simp),λl hl=>?_⟩;have sA:=(Oc H9).new (o:=.lst []) hl;have tlA:(upd H9 l (.lst [])) l=some (.lst (([]:List Addr).map Oa)):=ae;have SA:=S9.new (o:=.lst []) hl;have tabA:=tab9.same sA;have nl:l≠p:=S9.tape.ne hl;have tA:=sA _ _ t9;have nlr:l≠ra:=(ao t9 hl).symm;generalize upd H9 l (.lst [])=HA at sA tlA SA tabA tA;clear S9 tab9 sA t9;nofun;refine⟨aI (by simp),λda hda=>?_⟩;have sB:=(Oc HA).new (o:=.lst []) hda;have tdB:(upd HA da (.lst [])) da=some (.lst (([]:List Str).map N9)):=ae;have LB:Ls t p H1 (upd HA da (.lst [])) l [] [] ra da (cR kd n []) []:=⟨SA.new hda,sB _ _ tlA,nl,⟨rfl,λi q k h=>by simp at h⟩,sB _ _ tA,fra,nra,tdB,SA.free hda,SA.tape.ne hda,nlr,ao tlA hda,ao tA hda,tabA.same sB⟩;have PB:Pd kd n [] [] []:=Pd.nil;generalize upd HA da (.lst [])=HB at LB;clear SA tabA sB tdB tlA tA;nofun;refine⟨p,3,rfl,LB.st.tape,by decide,by decide,λr1 HC c0 c1 SC=>?_⟩;obtain⟨nt,rfl⟩:=HH c0;have hnt:nt<3:=by lia
   have LC:=LB.stp SC;clear LB SC c0 c1;nofun;refine⟨_,rfl,by lia,by lia,cy (λj σ H'=>∃(l:Addr) (qs:List Addr) (ks:List Ky) (ds:List Dd) (dues:List Str),Ls t p H1 H' l qs ks ra da (cR kd n ds) dues/\Pd kd n ds ks dues/\ds.length<=j*6/\∃v7 v8 v9,σ=[some (Oa a),some (N7 (0 + ↑i)),some (Oa p),some (N9 kd),some (Oa ra),some (Oa l),some (Oa da),v7,v8,v9]) ⟨l,[],[],[],[],LC,PB,EU _,_,_,_,rfl⟩ ?_ ?_⟩
   ·rintro j σ HD hj ⟨l,qs,ks,ds,dues,LD,PD,hdl0,v7,v8,v9,rfl⟩
    have hj5:j<5:=by lia
    nofun;refine⟨p,5,rfl,LD.st.tape,by decide,by decide,λr2 HE d0 d1 SE=>?_⟩;obtain⟨na,rfl⟩:=HH d0;have hna:na<5:=by lia
    have LE:=LD.stp SE;clear LD SE d0 d1;nofun;refine⟨_,rfl,by lia,by lia,cy (λm σ H'=>∃(ds:List Dd) (dues:List Str),Ls t p H1 H' l qs ks ra da (cR kd n ds) dues/\Pd kd n ds ks dues/\ds.length<=j*6+m/\∃v8 v9,σ=[some (Oa a),some (N7 (0 + ↑i)),some (Oa p),some (N9 kd),some (Oa ra),some (Oa l),some (Oa da),some (N7 (0 + ↑j)),v8,v9]) ⟨ds,dues,LE,PD,hdl0,_,_,rfl⟩ ?_ ?_⟩
    ·rintro m σ HF hm ⟨ds,dues,LF,PD,hdl1,v8,v9,rfl⟩
     have hm5:m<5:=by lia
     clear LE;nofun;refine⟨aI (by simp),λq1 hq1=>?_⟩;have sG:=(Oc HF).new (o:=.lst (ask4.map N9)) hq1;have tq1:(upd HF q1 (.lst [N9 "order",N9 "back",N9 "rings",N9 "walk"])) q1=some (.lst (ask4.map N9)):=ae;have LG:Ls t p H1 (upd HF q1 (.lst [N9 "order",N9 "back",N9 "rings",N9 "walk"])) l qs ks ra da (cR kd n ds) dues:=LF.same sG;have nq1:q1≠p:=LF.st.tape.ne hq1;generalize upd HF q1 (.lst [N9 "order",N9 "back",N9 "rings",N9 "walk"])=HG at LG tq1;clear LF sG;nofun;refine⟨p,4,rfl,LG.st.tape,by decide,by decide,λr3 HI e0 e1 SI=>?_⟩;have LI:=LG.stp SI;obtain⟨v,ev,hv⟩:=dP (xs:=ask4.map N9) e0 (by simpa [ask4]using e1);refine bq (N4 (SI.keep _ _ tq1 nq1)) ev ?_;obtain⟨w,hw,rfl⟩:=E1.mp hv;clear LG SI ev hv tq1 e0 e1;nofun;refine⟨aZ LI.rw,?_⟩;nofun;have hdl:=il kd n ds;refine aM LI.rw (by rw[EE,hdl];exact ar ⋯) ?_;have LX:=LI.addR w;rw[show cR kd n ds++[w]=cR kd n (ds++[.ask w])from f7 kd n ds (.ask w)]at LX;generalize upd HI ra (.lst ((cR kd n ds).map N9++[N9 w]))=HX at LX;nofun;refine⟨aZ LX.du,?_⟩;nofun;refine⟨w,l,qs,ks,kd,rfl,hw,LX.key,LX.kt,PD.kso,hkd,λos HY sY hO=>?_⟩;have LY:=LX.same sY;have hdu:=PD.len;nofun;refine aM LY.du (by rw[EE];exact ar ⋯) ?_;exact⟨ds++[.ask w],dues++[lV w os],LY.addD _,PD.ask hw hO,by simp;lia,_,_,rfl⟩
    ·rintro σ HF ⟨ds,dues,LF,PD,hdl1,v8,v9,rfl⟩
     have hdl2:ds.length<=j*6+4:=by lia
     clear LE hdl1;nofun;refine⟨p,rfl,LF.st.tape,λm2 HG hm2 SG=>?_⟩;have LG:=LF.stp SG;refine⟨p,kd,m2,rfl,LG.st.tape,hkd,hm2,λl2 qs2 ks2 HI hkl hok hK SI hl2 tl2=>?_⟩;have LI:=LG.newK SI hl2 tl2 hK;clear LF SG LG SI hl2 tl2 hK;nofun;refine⟨aZ LI.rw,?_⟩;nofun;refine⟨rfl,?_⟩;nofun;refine⟨aI (by simp),λwa hwa=>?_⟩;have sJ:=(Oc HI).new (o:=.lst [N9 "row"]) hwa;have twa:(upd HI wa (.lst [N9 "row"])) wa=some (.lst [N9 "row"]):=ae;have LJ:=LI.same sJ;generalize upd HI wa (.lst [N9 "row"])=HJ at twa LJ;clear LI sJ;have hko:lT kd ks2:=⟨hok,by lia⟩;have hdr:(Dd.row ks2).ok kd:=hko;have hql:=LJ.kt.1;nofun;refine⟨l2,rfl,⟨_,N4 LJ.key⟩,bN (a:=l2) (vs:=qs2.map Oa) (λj ys σ H'=>HJ=H'/\j<=qs2.length/\ys=((ks2.take j).map Ky.word).map N9/\∃v,σ=[v]) (by rw[EE];exact ar ⋯) (λj ys σ H' h=>by rw[h.2.2.1];simp;lia) (λj ys σ H' h=>h.1▸N4 LJ.key) ⟨rfl,EU _,rfl,none,rfl⟩ ?_ ?_⟩
     ·rintro j ys σ H9 y hy ⟨rfl,_,rfl,v,rfl⟩
      obtain⟨q,rfl,eq,_,hj⟩:=aX hy;have ek:=EF (l:=ks2) (i:=j) ⋯;have tq:=LJ.kt.2 _ _ _ eq ek;generalize ks2[j]'⋯=ky at ek tq;nofun;exact Oe (by rw[EE];exact hj) ⟨rfl,hj,by rw[E3,ek,EK,EK];rfl,_,rfl⟩
     rintro ys σ H9 ⟨rfl,_,rfl,v,rfl⟩ wb hwb;rw[EE,ER ⋯];have sK:=(Oc HJ).new (o:=.lst ((ks2.map Ky.word).map N9)) hwb;have twb:(upd HJ wb (.lst ((ks2.map Ky.word).map N9))) wb=some (.lst ((ks2.map Ky.word).map N9)):=ae;have LK:=LJ.same sK;have twaK:=sK _ _ twa;generalize upd HJ wb (.lst ((ks2.map Ky.word).map N9))=HK at twb LK twaK;clear LJ sK twa;nofun;refine⟨wa,wb,_,_,rfl,rfl,twaK,twb,aI (by simp;lia),λwc hwc=>?_⟩;have sM:=(Oc HK).new (o:=.lst (((Dd.row ks2).words).map N9)) hwc;have twc:(upd HK wc (.lst (((Dd.row ks2).words).map N9))) wc=some (.lst (((Dd.row ks2).words).map N9)):=ae;change wq _ (upd HK wc (.lst (((Dd.row ks2).words).map N9))) _;have LM:=LK.same sM;generalize upd HK wc (.lst (((Dd.row ks2).words).map N9))=HM at twc LM;clear LK sM twaK twb;nofun;refine⟨_,wc,_,rfl,rfl,N4 twc,?_,?_⟩
     ·have e2:=i9 λw hw=>(Dd.sgn hdr w hw).2
      have e3:=(Dd.few hdr).1;rw[e6];lia
     nofun;rw[uE];have hdl:=il kd n ds;refine aM LM.rw (by rw[EE,hdl];exact ar ⋯) ?_;have LX:=LM.addR (Dd.row ks2).text;rw[f7 kd n ds (.row ks2)]at LX;nofun;exact⟨l2,qs2,ks2,ds++[.row ks2],dues,LX,PD.row hko,by simp;lia,_,_,_,rfl⟩
   ·rintro σ HD ⟨l,qs,ks,ds,dues,LD,PD,hdl0,v7,v8,v9,rfl⟩
    have hdl2:ds.length<=30:=by lia
    clear LC hdl0;nofun;refine⟨aI (by simp),λtp htp=>?_⟩;have sE:=(Oc HD).new (o:=.tup [N9 "order",N9 "back",N9 "rings",N9 "walk",N9 "order"]) htp;have ttp:(upd HD tp (.tup [N9 "order",N9 "back",N9 "rings",N9 "walk",N9 "order"])) tp=some (.tup (ask5.map N9)):=ae;have ntp:tp≠p:=LD.st.tape.ne htp;have ftp:H1 tp=none:=LD.st.free htp;have LE:=LD.same sE;generalize upd HD tp (.tup [N9 "order",N9 "back",N9 "rings",N9 "walk",N9 "order"])=HE at ttp LE;clear LD sE;refine⟨tp,rfl,⟨_,N6 ttp⟩,oF (a:=tp) (xs:=ask5.map N9) (λj σ H'=>H' tp=some (.tup (ask5.map N9))/\∃(ds:List Dd) (dues:List Str),Ls t p H1 H' l qs ks ra da (cR kd n ds) dues/\Pd kd n ds ks dues/\ds.length<=30+j/\∃v9,σ=[some (Oa a),some (N7 (0 + ↑i)),some (Oa p),some (N9 kd),some (Oa ra),some (Oa l),some (Oa da),v7,v8,v9]) ⟨ttp,ds,dues,LE,PD,hdl2,_,rfl⟩ (λj σ H' _ h=>N6 h.1) ?_ ?_⟩
    ·rintro j x σ HI hx ⟨ttI,ds,dues,LI,PD,hdl1,v9,rfl⟩
     obtain⟨w,rfl,ew,hw5,hj⟩:=aX hx;have hw:w∈ask4:=yD w hw5;have hj5:j<5:=hj;clear LE;nofun;refine⟨aZ LI.rw,?_⟩;nofun;have hdl:=il kd n ds;refine aM LI.rw (by rw[EE,hdl];exact ar ⋯) ?_;have LX:=LI.addR w;rw[show cR kd n ds++[w]=cR kd n (ds++[.ask w])from f7 kd n ds (.ask w)]at LX;have ttX:(upd HI ra (.lst ((cR kd n ds).map N9++[N9 w]))) tp=some (.tup (ask5.map N9)):=by rw[ak (λz=>by have:=LI.rw;rw[<-z,ttI]at this;cases this)];exact ttI
     generalize upd HI ra (.lst ((cR kd n ds).map N9++[N9 w]))=HX at LX ttX;nofun;refine⟨aZ LX.du,?_⟩;nofun;refine⟨w,l,qs,ks,kd,rfl,hw,LX.key,LX.kt,PD.kso,hkd,λos HY sY hO=>?_⟩;have LY:=LX.same sY;have ttY:=sY _ _ ttX;have hdu:=PD.len;nofun;refine aM LY.du (by rw[EE];exact ar ⋯) ?_;refine⟨?_,ds++[.ask w],dues++[lV w os],LY.addD _,PD.ask hw hO,by simp;lia,_,rfl⟩;rw[ak (λz=>by have:=LY.du;rw[<-z,ttY]at this;cases this)];exact ttY
    ·rintro σ HI ⟨ttI,ds,dues,LI,PD,hdl1,v9,rfl⟩
     have hdl3:ds.length<=40:=by have:(ask5.map N9).length=5:=rfl;lia
     clear LE;obtain⟨tk,tj⟩:=PD.text hkd hn2 hn64 ⋯;nofun;refine⟨rfl,?_⟩;nofun;refine⟨_,ra,_,rfl,rfl,N4 LI.rw,tj,?_⟩;nofun;refine⟨_,_,kd,n,ds,rfl,tk,LI.tab,λd hd=>(PD.ok d hd).2.1,λxa as HJ sJ TJ tx hA=>?_⟩;obtain rfl:=gG hA PD.ans;have hdu:=PD.len;nofun;refine⟨xa,da,_,rfl,tx,sJ.at LI.tab LI.du trivial,λw hw=>(PD.low w hw).ok,by lia,λHK sK=>?_⟩;nofun;refine⟨λb u nb e=>sK _ _ (sJ b u nb (LI.st.keep b u (same _ _ (sm b u nb e)) λz=>?_)),TJ.same sK,_,_,_,_,_,_,_,_,_,rfl⟩;have:=sm b u nb e;rw[z,hp0]at this;cases this
  ·rintro σ H' ⟨sm,T0,v1,v2,v3,v4,v5,v6,v7,v8,v9,rfl⟩
   nofun;exact k _
end
theorem Be{α:Type}{P:List α->Prop}(h:∀x0:α,P [x0]):∀us:List α,us.length=1->P us
 | [x0],_=>h x0
theorem Eu{α:Type}{P:List α->Prop}(h:∀x0 x1:α,P [x0,x1]):∀us:List α,us.length=2->P us
 | [x0,x1],_=>h x0 x1
theorem Df{α:Type}{P:List α->Prop}(h:∀x0 x1 x2:α,P [x0,x1,x2]):∀us:List α,us.length=3->P us
 | [x0,x1,x2],_=>h x0 x1 x2
theorem Ew{α:Type}{P:List α->Prop}(h:∀x0 x1 x2 x3:α,P [x0,x1,x2,x3]):∀us:List α,us.length=4->P us
 | [x0,x1,x2,x3],_=>h x0 x1 x2 x3
theorem Dg:AB tab:=by
 unfold tab
 repeat refine JE (by first|exact λ_ _ _ _ _ _=>Be (λ_=>rfl)|exact λ_ _ _ _ _ _=>Eu (λ_ _=>rfl)|exact λ_ _ _ _ _ _=>Df (λ_ _ _=>rfl)|exact λ_ _ _ _ _ _=>Ew (λ_ _ _ _=>rfl)) ?_
 exact trivial
theorem Bf {l:JD}{w:World}{K:EG}{mg:Str->Option Value}{fa f28 f29 f30 f31 f32 f65 f101 aG ag:Addr}{d28 d29 d30 d31 d32 d65:FuncData}{fs:List Addr}{ds:List FuncData}(X:K.In h) (G:h.Ns mainGlobals mg) (hfa:mg "law" = some (.ref fa))
  (al:Al K tab fs ds)
  (a28:Fm K (.ref ag) "__init__" = some (some (.ref f28))) (i28:Gz K (.ref f28)=true) (F28:Fun K "__init__" "RingWalk.__init__" bU f28 d28)
  (a29:Fm K (.ref ag) "step" = some (some (.ref f29))) (i29:Gz K (.ref f29)=true) (F29:Fun K "step" "RingWalk.step" cM f29 d29)
  (a30:Fm K (.ref ag) "row" = some (some (.ref f30))) (i30:Gz K (.ref f30)=true) (F30:Fun K "row" "RingWalk.row" eQ f30 d30)
  (a31:Fm K (.ref ag) "hand" = some (some (.ref f31))) (i31:Gz K (.ref f31)=true) (F31:Fun K "hand" "RingWalk.hand" dY f31 d31)
  (a32:Fm K (.ref ag) "left" = some (some (.ref f32))) (i32:Gz K (.ref f32)=true) (F32:Fun K "left" "RingWalk.left" cN f32 d32)
  (a65:Fm K (.ref aG) "__init__" = some (some (.ref f65))) (i65:Gz K (.ref f65)=true) (F65:Fun K "__init__" "Desk.__init__" cO f65 d65)
  (a101:Fe K mainGlobals "law" = some (some (.ref f101)))
  {oc101 kV101 dc101 pm101 cd101 ct101:Value}{od101 an101:Option Addr}{sl101:Array (Option Value)}
  (l101:K.lookup f101=some ⟨oc101,od101,.func (Gk "law" "law" (dN gk) (cB gk) (aL gk) .none kV101 dc101 pm101 an101 cd101 ct101),sl101⟩) (c101:ID K cd101 "law" = true) (k101:FZ K (.ref f101)=true)
  (l9:Fe K mainGlobals "abs" = some none)
  (rS:Fe K mainGlobals "all" = some none)
  (nB:Fe K mainGlobals "bool" = some none)
  (c4:Fe K mainGlobals "enumerate" = some none)
  (kW:Fe K mainGlobals "int" = some none)
  (aV:Fe K mainGlobals "isinstance" = some none)
  (bA:Fe K mainGlobals "len" = some none)
  (iG:Fe K mainGlobals "list" = some none)
  (md:Fe K mainGlobals "max" = some none)
  (ou:Fe K mainGlobals "min" = some none)
  (rT:Fe K mainGlobals "ord" = some none)
  (bQ:Fe K mainGlobals "range" = some none)
  (fK:Fe K mainGlobals "sorted" = some none)
  (fk:Fe K mainGlobals "str" = some none)
  (uH:Fe K mainGlobals "sum" = some none)
  (dh:Fe K mainGlobals "tuple" = some none)
  (uI:Fe K mainGlobals "zip" = some none)
  {cc pt:Addr}(hcc:(ds.getD 17 (Gk "law" "law" (dN gk) (cB gk) (aL gk) .none kV101 dc101 pm101 an101 cd101 ct101)).code=.ref cc) (hchd:Ic K cc pt=true)
  {b8:Addr}{q0_READERS q1_READERS q2_READERS:Tok}{ep_READERS:Nat}(ag_READERS:Fe K mainGlobals "READERS" = some (some (.ref b8))) (at_READERS:K.lookup b8=some ⟨.type "dict",none,.dict #[⟨Fx w.params "number",.str "number" q0_READERS,.ref (fs.getD 50 fa)⟩,⟨Fx w.params "part",.str "part" q1_READERS,.ref (fs.getD 51 fa)⟩,⟨Fx w.params "text",.str "text" q2_READERS,.ref (fs.getD 52 fa)⟩] ep_READERS,#[]⟩)
  {fJ:Addr}{q0_ASKS q1_ASKS q2_ASKS q3_ASKS q4_ASKS q5_ASKS q6_ASKS q7_ASKS q8_ASKS:Tok}{ep_ASKS:Nat}(ag_ASKS:Fe K mainGlobals "ASKS" = some (some (.ref fJ))) (at_ASKS:K.lookup fJ=some ⟨.type "dict",none,.dict #[⟨Fx w.params "order",.str "order" q0_ASKS,.ref (fs.getD 65 fa)⟩,⟨Fx w.params "back",.str "back" q1_ASKS,.ref (fs.getD 66 fa)⟩,⟨Fx w.params "rings",.str "rings" q2_ASKS,.ref (fs.getD 67 fa)⟩,⟨Fx w.params "ahead",.str "ahead" q3_ASKS,.ref (fs.getD 68 fa)⟩,⟨Fx w.params "cheapest",.str "cheapest" q4_ASKS,.ref (fs.getD 69 fa)⟩,⟨Fx w.params "walk",.str "walk" q5_ASKS,.ref (fs.getD 70 fa)⟩,⟨Fx w.params "puts",.str "puts" q6_ASKS,.ref (fs.getD 71 fa)⟩,⟨Fx w.params "poured",.str "poured" q7_ASKS,.ref (fs.getD 72 fa)⟩,⟨Fx w.params "heaps",.str "heaps" q8_ASKS,.ref (fs.getD 73 fa)⟩] ep_ASKS,#[]⟩)
  {kR:Addr}{q0_DONE q1_DONE q2_DONE:Tok}{ep_DONE:Nat}(ag_DONE:Fe K mainGlobals "DONE" = some (some (.ref kR))) (at_DONE:K.lookup kR=some ⟨.type "dict",none,.dict #[⟨Fx w.params "last",.str "last" q0_DONE,.ref (fs.getD 42 fa)⟩,⟨Fx w.params "first",.str "first" q1_DONE,.ref (fs.getD 43 fa)⟩,⟨Fx w.params "runs",.str "runs" q2_DONE,.ref (fs.getD 44 fa)⟩] ep_DONE,#[]⟩)
  {iz:Addr}{q0_WAYS q1_WAYS q2_WAYS:Tok}{ep_WAYS:Nat}{od_WAYS:Option Addr}{sl_WAYS:Array (Option Value)}(ag_WAYS:Fe K mainGlobals "WAYS" = some (some (.ref iz))) (at_WAYS:K.lookup iz=some ⟨.type "tuple",od_WAYS,.seq #[.str "last" q0_WAYS,.str "first" q1_WAYS,.str "runs" q2_WAYS] ep_WAYS,sl_WAYS⟩)
  (ac_Desk:Fe K mainGlobals "Desk" = some (some (.ref aG))) (ac_RingWalk:Fe K mainGlobals "RingWalk" = some (some (.ref ag)))
  (eN:(b8 == sysModules)=false)
  (jR:(fJ == sysModules)=false)
  (pg_Desk:GM K aG GA=true)
  (hd_Desk:G0 K aG=true)
  (po_Desk:HL K aG=true)
  (sa_Desk:Fm K (.ref aG) "__setattr__" = some (some (.builtin "object.__setattr__")))
  (mk_Desk:Ih K aG=true)
  (kc_Desk:FZ K (.ref aG)=true)
  (cZ:Fm K (.ref aG) "kind" = some none)
  (cY:Fm K (.ref aG) "base" = some none)
  (bY:Fm K (.ref aG) "laid" = some none)
  (bM:Fm K (.ref aG) "pourings" = some none)
  (pg_RingWalk:GM K ag GA=true)
  (hd_RingWalk:G0 K ag=true)
  (po_RingWalk:HL K ag=true)
  (sa_RingWalk:Fm K (.ref ag) "__setattr__" = some (some (.builtin "object.__setattr__")))
  (mk_RingWalk:Ih K ag=true)
  (kc_RingWalk:FZ K (.ref ag)=true)
  (aD:Fm K (.ref ag) "things" = some none)
  (bh:Fm K (.ref ag) "held" = some none)
  (bD:Fm K (.ref ag) "plan" = some none)
  (bg:Fm K (.ref ag) "done" = some none)
  {fj:Tok}(ag_TEXT_BASE:Fe K mainGlobals "TEXT_BASE" = some (some (.int 27 fj)))
  {iD:Tok}(ag_FIGURES:Fe K mainGlobals "FIGURES" = some (some (.str "0123456789" iD)))
  {iE:Tok}(ag_LETTERS:Fe K mainGlobals "LETTERS" = some (some (.str "abcdefghijklmnopqrstuvwxyz" iE)))
  {df:Tok}(ag_MOST_LETTERS:Fe K mainGlobals "MOST_LETTERS" = some (some (.int 20 df)))
  {dF:Tok}(ag_MOST_BOTTOM:Fe K mainGlobals "MOST_BOTTOM" = some (some (.int 60 dF)))
  {de:Tok}(ag_MOST_FIGURES:Fe K mainGlobals "MOST_FIGURES" = some (some (.int 18 de)))
  {eC:Tok}(ag_LEAST_BASE:Fe K mainGlobals "LEAST_BASE" = some (some (.int 2 eC)))
  {fh:Tok}(ag_MOST_BASE:Fe K mainGlobals "MOST_BASE" = some (some (.int 64 fh)))
  {fi:Tok}(ag_MOST_KEYS:Fe K mainGlobals "MOST_KEYS" = some (some (.int 200 fi))) :
  ∃fd:FuncData,(∃c,Ic K c pt=true)/\(∀(s:Shared) (v:Value),BindsTo s fd ⟨[v],[]⟩ [("_law_script",v)])/\∀base:Heap,K.In base->base.Ns mainGlobals mg->base.BuiltinsAt mg pt->FnOk l.prog w K mg base CX0 10 fa fd ["_law_script"] (uF K pt):=by
 have e:=hfa.symm.trans (FG X G a101);cases e;have b28:=F28.binds (ps:=["self","things","order"]) λ_ _ _ _ _ _=>Df (λ_ _ _=>rfl)
 have b29:=F29.binds (ps:=["self"]) λ_ _ _ _ _ _=>Be (λ_=>rfl)
 have b30:=F30.binds (ps:=["self"]) λ_ _ _ _ _ _=>Be (λ_=>rfl)
 have b31:=F31.binds (ps:=["self"]) λ_ _ _ _ _ _=>Be (λ_=>rfl)
 have b32:=F32.binds (ps:=["self"]) λ_ _ _ _ _ _=>Be (λ_=>rfl)
 have b65:=F65.binds (ps:=["self","kind","base"]) λ_ _ _ _ _ _=>Df (λ_ _ _=>rfl)
 have F101:=uT (st:=gk) l101 c101 k101;have TT:∀base:Heap,base.BuiltinsAt mg pt->Tx K mg ⟨λi=>fs.getD i fa,λi=>ds.getD i (Gk "law" "law" (dN gk) (cB gk) (aL gk) .none kV101 dc101 pm101 an101 cd101 ct101),_,_,_,_,_,_,_,_,_,_,_,_,_,_,cc,pt,base,w,_,_,_,_,_,_,_,_,_,_,_,_,_,_,_⟩:=λbase hba=>⟨λi {x s p} e=>Al.ft X G al Dg _ _ i e,⟨mk_RingWalk,a28,i28,kc_RingWalk⟩,F28,b28,⟨a29,i29,F29.kp⟩,F29,b29,⟨a30,i30,F30.kp⟩,F30,b30,⟨a31,i31,F31.kp⟩,F31,b31,⟨a32,i32,F32.kp⟩,F32,b32,⟨mk_Desk,a65,i65,kc_Desk⟩,F65,b65,F101,Fv X G l9,Fv X G rS,Fv X G nB,Fv X G c4,Fv X G kW,Fv X G aV,Fv X G bA,Fv X G iG,Fv X G md,Fv X G ou,Fv X G rT,Fv X G bQ,Fv X G fK,Fv X G fk,Fv X G uH,Fv X G dh,Fv X G uI,hcc,hchd,hba,FG X G ag_READERS,⟨[q0_READERS,q1_READERS,q2_READERS],ep_READERS,rfl,at_READERS⟩,FG X G ag_ASKS,⟨[q0_ASKS,q1_ASKS,q2_ASKS,q3_ASKS,q4_ASKS,q5_ASKS,q6_ASKS,q7_ASKS,q8_ASKS],ep_ASKS,rfl,at_ASKS⟩,FG X G ag_DONE,⟨[q0_DONE,q1_DONE,q2_DONE],ep_DONE,rfl,at_DONE⟩,FG X G ag_WAYS,λH=>.inr ⟨_,_,_,at_WAYS,rfl,rfl,(by show 3<=sizeLine;decide),(.cons ⟨_,rfl⟩ (.cons ⟨_,rfl⟩ (.cons ⟨_,rfl⟩ .nil)))⟩,FG X G ac_Desk,FG X G ac_RingWalk,eN,jR,⟨pg_Desk,hd_Desk,po_Desk,sa_Desk⟩,cZ,cY,bY,bM,⟨pg_RingWalk,hd_RingWalk,po_RingWalk,sa_RingWalk⟩,aD,bh,bD,bg,FG X G ag_TEXT_BASE,FG X G ag_FIGURES,FG X G ag_LETTERS,FG X G ag_MOST_LETTERS,FG X G ag_MOST_BOTTOM,FG X G ag_MOST_FIGURES,FG X G ag_LEAST_BASE,FG X G ag_MOST_BASE,FG X G ag_MOST_KEYS⟩
 exact⟨_,⟨_,hchd⟩,λs v=>.of_eq rfl,λbase _ _ hba=>Bd (TT base hba)⟩
theorem cg{l:JD}{q:Program}{loose:List Str}{XP:(Str->Option Value)->Heap->Prop}{YP:World->Heap->Prop}{d:DefRec}{K:Params->EG}{pt:Addr}(hn:l.most=some 63)(hdf:d.params.defaults=[])
  (hY:∀(w:World) (h:Heap),YP w h->(K w.params).In h)
  (hYT:∀(w:World) (h:Heap),YP w h->h.get? pt=some (PySem.W.tabObj #[])) (hnt:∀w:World,PySem.W.noTabs (K w.params)=true)
  (F:∀(w:World) (mg:Str->Option Value) (fa:Addr) (h:Heap),(K w.params).In h->h.Ns mainGlobals mg->mg d.name=some (.ref fa)->
   ∃fd:FuncData,(∃c,Ic (K w.params) c pt=true)/\(∀(s:Shared) (u:Value),BindsTo s fd ⟨[u],[]⟩ [("_law_script",u)])/\∀base:Heap,(K w.params).In base->base.Ns mainGlobals mg->base.BuiltinsAt mg pt->FnOk l.prog w (K w.params) mg base CX0 10 fa fd ["_law_script"] (uF (K w.params) pt)) :
  Mh q loose XP YP l.row.toRowW d [] (λf vs=>Lx f vs):=
 L2.tX (n:=63) (k:=10) (x:="_law_script") (CX:=λ_=>CX0) (sp:=λw pt=>uF (K w.params) pt) hn (by decide) hdf ⟨rfl,by decide,by decide,rfl⟩ hY hYT hnt F (λ_ _ a ns hl hP hS=>⟨a,ns,rfl,hS,hl,.inl hP,λ_=>rfl⟩) λ_ _ _ _ _ z=>z
end Fs
open PySem PySem.W PyProof.Rows
set_option maxRecDepth 100000 in
set_option maxHeartbeats 0 in
theorem PySem.Challenge.cw_figuresort_k50_asks_of_a_row_holds : PySem.Challenge.rw_figuresort_k50_asks_of_a_row.Holds := by
 w_on;refine holds_law Fs.BE λsaid=>?_
 refine holds_open (q:=Fs.vwF) (loose:=Fs.loF) (Xt:=Fs.xtF) (XP:=XL Fs.vwF []) (YP:=Hook.says Fs.iH) Fs.BH (Hook.of Fs.iH) (Hook.keeps Fs.iH) (λs e=>xl_of s (JY.mp e).1) XL.keeps (by rfl) (by rfl) (by rfl) (λs e=>recFacts_of (JY.mp e).2) (by rfl) said (by first|exact Fs.D0|decide +kernel) (by first|exact Fs.yN|exact⟨rfl,rfl,rfl,rfl,rfl,by decide +kernel⟩) ?hw ?hc
 (case hw=>w_witness2)
 delta Fs.iH
 k_fill
 refine' Fs.cg (l:=Ff) (pt:=?pt) rfl rfl (λw h Y=>PySem.W.km_in_of Y) (λw h Y=>PySem.W.km_tabs_of Y _ (N1 _ (N2 _))) ?nt ?F;case F=>
  intro w mg fa h KX G hmg;refine' Fs.Bf KX G hmg ?al ?a28 ?i28 ?F28 ?a29 ?i29 ?F29 ?a30 ?i30 ?F30 ?a31 ?i31 ?F31 ?a32 ?i32 ?F32 ?a65 ?i65 ?F65 ?a101 ?l101 ?c101 ?k101 ?l9 ?rS ?nB ?c4 ?kW ?aV ?bA ?iG ?md ?ou ?rT ?bQ ?fK ?fk ?uH ?dh ?uI ?hcc ?hchd ?ag_READERS ?at_READERS ?ag_ASKS ?at_ASKS ?ag_DONE ?at_DONE ?ag_WAYS ?at_WAYS ?ac_Desk ?ac_RingWalk ?eN ?jR ?pg_Desk ?hd_Desk ?po_Desk ?sa_Desk ?mk_Desk ?kc_Desk ?cZ ?cY ?bY ?bM ?pg_RingWalk ?hd_RingWalk ?po_RingWalk ?sa_RingWalk ?mk_RingWalk ?kc_RingWalk ?aD ?bh ?bD ?bg ?ag_TEXT_BASE ?ag_FIGURES ?ag_LETTERS ?ag_MOST_LETTERS ?ag_MOST_BOTTOM ?ag_MOST_FIGURES ?ag_LEAST_BASE ?ag_MOST_BASE ?ag_MOST_KEYS;case' al=>unfold Fs.tab;repeat' (first|exact L2.Al.nil|refine' L2.Al.cons ?_ ?_ ?_)
  iterate 2 all_goals (first|k_is|exact L2.uT (by k_is) (by k_is) (by k_is)|skip)
  (case hcc=>exact rfl)
  all_goals kernel_rfl
 case nt=>
  intro w
  kernel_rfl
